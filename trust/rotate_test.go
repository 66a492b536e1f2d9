package trust_test

import (
	"fmt"
	"slices"
	"strings"
	"testing"

	"admission/api"
	"admission/envelope"
	"admission/keytree"
	"admission/trust"
)

// expectChanged checks Changed.
func expectChanged(t *testing.T, name string, a, b api.Root, wantKeys []api.Digest, wantRoles []string, wantAll bool) {
	t.Helper()
	keys, roles, all := trust.Changed(a, b)
	if !slices.Equal(keys, wantKeys) || !slices.Equal(roles, wantRoles) || all != wantAll {
		t.Errorf("%s: %x %q %t, want %x %q %t", name, keys, roles, all, wantKeys, wantRoles, wantAll)
	}
}

// expectBoth checks Changed of two root documents in both orders; the keys are given by their numbers.
func expectBoth(t *testing.T, name string, a, b api.Root, keys []int, roles []string, all bool) {
	t.Helper()
	want := ids(keys...)
	slices.SortFunc(want, compareDigests)
	expectChanged(t, name, a, b, want, roles, all)
	expectChanged(t, name+", the other way round", b, a, want, roles, all)
}

// variant is a root document that differs a little from the sample, with the keys, by their numbers, and the roles in which it differs, and whether all does.
type variant struct {
	named
	keys  []int
	roles []string
	all   bool
}

// variantsOfKeys returns root documents that differ from the sample in something of one of its keys.
func variantsOfKeys() []variant {
	var out []variant
	for n := 1; n <= 7; n++ {
		add := func(name string, change func(k *api.Key)) {
			r := changed(sample(), func(r *api.Root) { change(&r.Keys[where(*r, n)]) })
			out = append(out, variant{named{fmt.Sprintf("%s, key %d", name, n), r}, []int{n}, nil, false})
		}
		add("another owner", func(k *api.Key) { k.Owner += "x" })
		add("a role more", func(k *api.Key) { k.Roles = append(k.Roles, "z") })
		add("a role more at the beginning", func(k *api.Key) { k.Roles = append([]string{"a"}, k.Roles...) })
		add("another role", func(k *api.Key) { k.Roles[0] += "x" })
		add("another first time", func(k *api.Key) { k.From++; k.Until++; k.Until = min(k.Until, maxNumber) })
		add("an earlier end", func(k *api.Key) { k.From--; k.From = max(k.From, 0); k.Until-- })
		add("another end", func(k *api.Key) { k.Until = maxNumber - 1 })
		removed := changed(sample(), func(r *api.Root) { r.Keys = slices.Delete(r.Keys, where(*r, n), where(*r, n)+1) })
		out = append(out, variant{named{fmt.Sprintf("key %d left out", n), removed}, []int{n}, nil, false})
	}
	return out
}

// otherVariants returns root documents that differ from the sample in other ways.
func otherVariants() []variant {
	var out []variant
	add := func(name string, keys []int, roles []string, all bool, change func(r *api.Root)) {
		out = append(out, variant{named{name, changed(sample(), change)}, keys, roles, all})
	}
	revoke := func(n int, at int64) func(r *api.Root) {
		return func(r *api.Root) {
			r.Revoked = slices.DeleteFunc(r.Revoked, func(x api.Revocation) bool { return x.Key == id(n) })
			r.Revoked = append(r.Revoked, api.Revocation{Key: id(n), At: at})
		}
	}
	add("nothing", nil, nil, false, func(r *api.Root) {})
	add("the next version", nil, nil, false, func(r *api.Root) { r.Version++ })
	add("the last version", nil, nil, false, func(r *api.Root) { r.Version = maxNumber })
	add("expires later", nil, nil, true, func(r *api.Root) { r.Expires++ })
	add("expires earlier, and another key", []int{8}, nil, true, func(r *api.Root) {
		r.Expires = 0
		r.Keys = append(r.Keys, key(8, "a", 0, 1, "root"))
	})
	add("the key 8 more", []int{8}, nil, false, func(r *api.Root) { r.Keys = append(r.Keys, key(8, "a", 0, 1, "root")) })
	add("the key 9 more, which is revoked", []int{9}, nil, false, func(r *api.Root) { r.Keys = append(r.Keys, key(9, "a", 0, 1, "root")) })
	add("no revocations", []int{3, 5, 9}, nil, false, func(r *api.Root) { r.Revoked = nil })
	add("the key 3 revoked later", []int{3}, nil, false, revoke(3, 41))
	add("the key 9 revoked later", []int{9}, nil, false, revoke(9, 1))
	add("the key 5 revoked from the beginning", []int{5}, nil, false, revoke(5, 0))
	add("the key 1 revoked", []int{1}, nil, false, revoke(1, 0))
	add("a key revoked that neither has", []int{10}, nil, false, revoke(10, 0))
	add("a key revoked that neither has, later", []int{10}, nil, false, revoke(10, 5))
	add("a quota less", nil, []string{"layout"}, false, func(r *api.Root) { r.Quotas = r.Quotas[1:] })
	add("a quota more", nil, []string{"other"}, false, func(r *api.Root) { r.Quotas = append(r.Quotas, api.Quota{Role: "other", Need: 1}) })
	add("another quota of root", nil, []string{"root"}, false, func(r *api.Root) { r.Quotas[1].Need = 1 })
	add("another role", nil, []string{"layout", "layouts"}, false, func(r *api.Root) { r.Quotas[0].Role = "layouts" })
	add("other quotas", nil, []string{"layout", "root", "step"}, false, func(r *api.Root) {
		for i := range r.Quotas {
			r.Quotas[i].Need++
		}
	})
	add("other quotas exchanged", nil, []string{"layout", "step"}, false, func(r *api.Root) { r.Quotas[0].Need, r.Quotas[2].Need = 3, 1 })
	add("much", []int{1, 2, 3, 8, 9, 10}, []string{"a", "step", "z"}, true, func(r *api.Root) {
		r.Expires = maxNumber
		r.Keys[where(*r, 1)].Owner = "z"
		r.Keys[where(*r, 2)] = key(8, "anna", 10, 200, "root", "step")
		r.Revoked = []api.Revocation{{Key: id(3), At: 39}, {Key: id(5), At: 20}, {Key: id(10), At: 0}}
		r.Quotas = append(r.Quotas[:2], api.Quota{Role: "a", Need: 1}, api.Quota{Role: "z", Need: 32})
	})
	return out
}

// variants returns all the variants of the sample.
func variants() []named {
	var out []named
	for _, x := range slices.Concat(variantsOfKeys(), otherVariants()) {
		out = append(out, x.named)
	}
	return out
}

// Promise 11.6: each thing that can differ, and nothing else.
func TestChanged(t *testing.T) {
	for _, x := range slices.Concat(variantsOfKeys(), otherVariants()) {
		expectValid(t, x.name, x.r, true)
		expectBoth(t, x.name, sample(), x.r, x.keys, x.roles, x.all)
		expectBoth(t, x.name+", with itself", x.r, copied(x.r), nil, nil, false)
	}
}

// Promise 11.6: every pair of root documents of all sorts.
func TestChangedOfPairs(t *testing.T) {
	l := append(variants(), validRoots()...)
	for _, x := range l {
		for _, y := range l {
			keys, roles, all := modelChanged(x.r, y.r)
			expectChanged(t, x.name+", and "+y.name, x.r, y.r, keys, roles, all)
		}
	}
}

// Promise 11.6: a key, a revocation, or both, against a key, a revocation, or both.
func TestChangedOfOneKey(t *testing.T) {
	var l []api.Root
	for _, k := range [][]api.Key{nil, {key(8, "a", 0, 1, "step")}, {key(8, "b", 0, 1, "step")}} {
		for _, x := range [][]api.Revocation{nil, {{Key: id(8), At: 0}}, {{Key: id(8), At: 1}}} {
			l = append(l, changed(smallest(), func(r *api.Root) {
				r.Keys = append(r.Keys, k...)
				r.Revoked = x
			}))
		}
	}
	for i, a := range l {
		for j, b := range l {
			var want []api.Digest
			if i != j {
				want = ids(8)
			}
			expectChanged(t, fmt.Sprintf("cases %d and %d", i, j), a, b, want, nil, false)
		}
	}
}

// expectRotated checks Rotate, and the model of it.
func expectRotated(t *testing.T, name string, r api.Root, text string, keys []api.Digest, at int64, want api.Root, wantErrno api.Errno) {
	t.Helper()
	got, e := trust.Rotate(r, []byte(text), keys, at)
	expect(t, name, got, e, want, wantErrno)
	if e := modelRotate(r, text, keys, at); e != wantErrno {
		t.Errorf("%s: the model returns %d, want %d", name, e, wantErrno)
	}
}

// next returns the sample's successor after a change.
func next(change func(r *api.Root)) api.Root {
	return changed(sample(), func(r *api.Root) {
		r.Version++
		change(r)
	})
}

// Promise 11.7: who must sign.
func TestRotate(t *testing.T) {
	plain := next(func(r *api.Root) {})
	one := next(func(r *api.Root) { r.Quotas[1].Need = 1 })
	three := next(func(r *api.Root) { r.Quotas[1].Need = 3 })
	fresh := next(func(r *api.Root) {
		r.Keys = []api.Key{key(20, "nina", 0, 100, "root"), key(21, "olaf", 0, 100, "root"), key(3, "bert", 0, 200, "root")}
	})
	renamed := next(func(r *api.Root) { r.Keys[where(*r, 3)].Owner = "anna" })
	for i, x := range []struct {
		r    api.Root
		keys []int
		t    int64
		want api.Errno
	}{
		{plain, []int{1, 3}, 25, api.OK}, {plain, []int{2, 3}, 25, api.OK}, {plain, []int{6, 3, 1, 100}, 25, api.OK}, {plain, []int{1, 6}, 60, api.ErrSignature}, {plain, []int{2, 6}, 60, api.OK},
		{plain, nil, 25, api.ErrSignature}, {plain, []int{1}, 25, api.ErrSignature}, {plain, []int{1, 2}, 25, api.ErrSignature}, {plain, []int{1, 4, 7}, 25, api.ErrSignature}, {plain, []int{1, 5}, 25, api.ErrSignature},
		{plain, []int{1, 3}, 39, api.OK}, {plain, []int{1, 3}, 40, api.ErrSignature}, {plain, []int{2, 6}, 99, api.OK}, {plain, []int{2, 6}, 100, api.ErrSignature}, {plain, []int{2, 6}, 9, api.ErrSignature}, {plain, []int{1, 3}, -1, api.ErrSignature},
		{one, []int{1}, 25, api.ErrSignature}, {one, []int{1, 3}, 25, api.OK}, {three, []int{1, 3}, 25, api.ErrSignature}, {three, []int{1, 3, 6}, 25, api.OK},
		{fresh, []int{1, 3}, 25, api.ErrSignature}, {fresh, []int{20, 21}, 25, api.ErrSignature}, {fresh, []int{1, 3, 20}, 25, api.OK}, {fresh, []int{1, 2, 20, 21}, 25, api.ErrSignature}, {fresh, []int{1, 6, 20, 21}, 25, api.OK},
		{renamed, []int{1, 3}, 25, api.ErrSignature}, {renamed, []int{1, 3, 6}, 25, api.OK},
		{next(func(r *api.Root) { r.Expires = 25 }), []int{1, 3}, 25, api.ErrSignature}, {next(func(r *api.Root) { r.Expires = 26 }), []int{1, 3}, 25, api.OK}, {next(func(r *api.Root) { r.Expires = maxNumber }), []int{2, 6}, 100, api.ErrSignature},
		{next(func(r *api.Root) { r.Revoked = append(r.Revoked, api.Revocation{Key: id(1), At: 25}) }), []int{1, 3}, 25, api.ErrSignature},
		{next(func(r *api.Root) { r.Revoked = append(r.Revoked, api.Revocation{Key: id(1), At: 26}) }), []int{1, 3}, 25, api.OK},
		{next(func(r *api.Root) { r.Keys[where(*r, 1)].Roles = []string{"layout"} }), []int{1, 3}, 25, api.ErrSignature},
		{next(func(r *api.Root) { r.Keys[where(*r, 1)].From = 26 }), []int{1, 3}, 25, api.ErrSignature},
		{next(func(r *api.Root) { r.Keys[where(*r, 1)].Until = 25 }), []int{1, 3}, 25, api.ErrSignature},
		{next(func(r *api.Root) { r.Quotas = []api.Quota{{Role: "root", Need: 2}} }), []int{1, 3}, 25, api.OK},
		{next(func(r *api.Root) { r.Quotas[0].Need, r.Quotas[2].Need = 32, 32 }), []int{1, 3}, 25, api.OK},
	} {
		expectRotated(t, fmt.Sprintf("case %d", i), sample(), modelText(x.r), ids(x.keys...), x.t, x.r, x.want)
	}
}

// Promise 11.7: every set of keys.
func TestRotateBySubsets(t *testing.T) {
	rotated := 0
	for _, x := range otherVariants() {
		r := changed(x.r, func(r *api.Root) { r.Version = 8 })
		subsets(func(keys []int) {
			want := modelRotate(sample(), modelText(r), ids(keys...), 25)
			if want == api.OK {
				rotated++
			}
			expectRotated(t, fmt.Sprintf("%s, keys %v", x.name, keys), sample(), modelText(r), ids(keys...), 25, r, want)
		})
	}
	if rotated < 300 {
		t.Errorf("only %d root documents replace the sample", rotated)
	}
}

// Promise 11.7: versions around the next one, up to the last one.
func TestRotateVersions(t *testing.T) {
	for _, old := range []int64{1, 2, 7, maxNumber - 1, maxNumber} {
		r := changed(sample(), func(r *api.Root) { r.Version = old })
		for _, version := range []int64{0, 1, 2, 3, 6, 7, 8, 9, 14, maxNumber - 2, maxNumber - 1, maxNumber, maxNumber + 1} {
			x := changed(r, func(r *api.Root) { r.Version = version })
			want := api.ErrOrder
			switch {
			case version == 0:
				want = api.ErrInvalid
			case version > maxNumber:
				want = api.ErrSyntax
			case version == old+1:
				want = api.OK
			}
			expectRotated(t, fmt.Sprintf("version %d to %d", old, version), r, modelText(x), ids(1, 3), 25, x, want)
		}
	}
}

// Promise 11.7: each revocation left out, earlier, at the same time and later.
func TestRotateRevoked(t *testing.T) {
	for i, x := range sample().Revoked {
		rest := func(r *api.Root) { r.Revoked = slices.Delete(r.Revoked, i, i+1) }
		name := fmt.Sprintf("revocation %d", i)
		expectRotated(t, name+" left out", sample(), modelText(next(rest)), ids(2, 6), 15, api.Root{}, api.ErrInvalid)
		other := next(func(r *api.Root) { r.Revoked[i].Key = id(30) })
		expectRotated(t, name+" of another key", sample(), modelText(other), ids(2, 6), 15, api.Root{}, api.ErrInvalid)
		for _, at := range []int64{0, 1, 19, 20, 21, 39, 40, 41, maxNumber} {
			r := next(func(r *api.Root) { r.Revoked[i].At = at })
			want := api.OK
			if at > x.At {
				want = api.ErrInvalid
			}
			expectRotated(t, fmt.Sprintf("%s at %d", name, at), sample(), modelText(r), ids(2, 6), 15, r, want)
		}
	}
	more := next(func(r *api.Root) {
		for n := range 40 {
			r.Revoked = append(r.Revoked, api.Revocation{Key: id(100 + n), At: int64(n)})
		}
	})
	expectRotated(t, "other keys are revoked", sample(), modelText(more), ids(2, 6), 15, more, api.OK)
	gone := next(func(r *api.Root) { r.Keys = slices.Delete(r.Keys, where(*r, 3), where(*r, 3)+1) })
	expectRotated(t, "a revoked key is left out", sample(), modelText(gone), ids(2, 6), 15, gone, api.OK)
}

// attempt is a call of Rotate, whose payload is the text of next with something before it and after it.
type attempt struct {
	r, next       api.Root
	before, after string
	keys          []api.Digest
}

// Promise 11.7: the first of several errors.
func TestRotateOrderOfErrors(t *testing.T) {
	mistakes := []struct {
		name string
		make func(a *attempt)
		want api.Errno
	}{
		{"not valid", func(a *attempt) { a.r.Quotas[0].Need = 0 }, api.ErrInvalid},
		{"too long", func(a *attempt) { a.before = strings.Repeat("x", api.MaxDocument) }, api.ErrLimit},
		{"another form", func(a *attempt) { a.after = "x\n" }, api.ErrSyntax},
		{"the next one is not valid", func(a *attempt) { a.next.Keys[0].Owner = "A" }, api.ErrInvalid},
		{"another version", func(a *attempt) { a.next.Version = 7 }, api.ErrOrder},
		{"a revocation left out", func(a *attempt) { a.next.Revoked = a.next.Revoked[1:] }, api.ErrInvalid},
		{"too few signatures", func(a *attempt) { a.keys = ids(2) }, api.ErrSignature},
	}
	for set := range 1 << len(mistakes) {
		a := attempt{r: sample(), next: next(func(r *api.Root) {}), keys: ids(2, 6)}
		want, name := api.OK, "nothing"
		for i, x := range slices.Backward(mistakes) {
			if set>>i&1 == 1 {
				x.make(&a)
				want, name = x.want, x.name+", "+name
			}
		}
		expectRotated(t, name, a.r, a.before+modelText(a.next)+a.after, a.keys, 25, a.next, want)
	}
}

// successors returns root documents that somebody may want to put in the place of r, also some that cannot be there.
func successors(r api.Root) []api.Root {
	changes := []func(r *api.Root){
		func(r *api.Root) {},
		func(r *api.Root) { r.Revoked = nil },
		func(r *api.Root) { r.Quotas[0].Need = 1 },
		func(r *api.Root) { r.Quotas[0].Need = 3 },
		func(r *api.Root) {
			r.Keys = slices.DeleteFunc(r.Keys, func(k api.Key) bool { return k.Owner == "owner0" })
		},
	}
	for n := range 4 {
		revoked := api.Revocation{Key: id(n), At: int64(3 * n)}
		changes = append(changes,
			func(r *api.Root) { r.Revoked = append(r.Revoked, revoked) },
			func(r *api.Root) { r.Revoked = []api.Revocation{revoked} },
		)
	}
	for i := range r.Revoked {
		changes = append(changes, func(r *api.Root) { r.Revoked[i].At++ }, func(r *api.Root) { r.Revoked[i].At-- })
	}
	var out []api.Root
	for _, change := range changes {
		out = append(out, changed(r, func(r *api.Root) {
			r.Version++
			change(r)
		}))
	}
	return out
}

// expectKept checks that what is revoked in r is so in next, which has replaced it, and that enough owners agreed.
func expectKept(t *testing.T, r, next api.Root, keys []api.Digest, at int64) {
	t.Helper()
	for _, x := range r.Revoked {
		for later := x.At; later < 12; later++ {
			if trust.Counts(next, x.Key, later) {
				t.Errorf("%v replaced by %v: a revoked key counts at %d", r, next, later)
			}
		}
	}
	for _, y := range []api.Root{r, next} {
		if n := len(modelVouched(y, "root", keys, at)); n < modelNeed(y, "root") {
			t.Errorf("%v replaced by %v: by %d owners", r, next, n)
		}
	}
}

// Promise 11.8: through all rotations that somebody can do, a revoked key stays revoked, and enough owners of each root document have signed the next one.
func TestRotations(t *testing.T) {
	rotations := 0
	var rotate func(r api.Root, keys []api.Digest, at int64, more int)
	rotate = func(r api.Root, keys []api.Digest, at int64, more int) {
		for _, x := range successors(r) {
			want := modelRotate(r, modelText(x), keys, at)
			expectRotated(t, fmt.Sprintf("version %d", x.Version), r, modelText(x), keys, at, x, want)
			if want != api.OK {
				continue
			}
			rotations++
			expectKept(t, r, x, keys, at)
			if more > 0 {
				rotate(x, keys, at, more-1)
			}
		}
	}
	first := many(1, 6, 0, 0)
	first.Quotas[0].Need = 2
	for i := range first.Keys {
		first.Keys[i].From, first.Keys[i].Until = 0, 50
	}
	for _, keys := range [][]int{{4}, {0, 1}, {0, 2}, {2, 4}, {0, 1, 2, 3, 4, 5}} {
		for _, at := range []int64{0, 3} {
			rotate(first, ids(keys...), at, 2)
		}
	}
	if rotations < 1000 {
		t.Errorf("only %d rotations", rotations)
	}
}

// signed returns the IDs of the keys whose signatures of a payload verify, after keys of these seeds have signed it.
func signed(payload []byte, seeds ...byte) []api.Digest {
	e := api.Envelope{Type: "root", Payload: payload}
	for _, seed := range seeds {
		e, _, _ = envelope.Sign(e, api.Signer{Seed: api.Half{seed}, Height: 1})
	}
	return envelope.Signers(e)
}

// Promise 11.8: signatures that envelopes hold.
func TestRotateOfSigned(t *testing.T) {
	first := api.Root{Version: 1, Expires: 100, Quotas: []api.Quota{{Role: "root", Need: 2}}}
	for seed, owner := range []string{"anna", "anna", "bert", "cara"} {
		p, _ := keytree.New(api.Half{byte(seed)}, 1)
		first.Keys = append(first.Keys, api.Key{Public: p, Owner: owner, Roles: []string{"root"}, Until: 50})
	}
	first = sorted(first)
	second := changed(first, func(r *api.Root) {
		r.Version = 2
		r.Revoked = []api.Revocation{{Key: modelID(r.Keys[0].Public), At: 10}}
	})
	text := modelText(second)
	for _, x := range []struct {
		seeds []byte
		want  api.Errno
	}{{[]byte{0, 2}, api.OK}, {[]byte{1, 3, 9}, api.OK}, {[]byte{0, 1}, api.ErrSignature}, {[]byte{0, 8, 9}, api.ErrSignature}, {nil, api.ErrSignature}} {
		expectRotated(t, fmt.Sprintf("signed by %d", x.seeds), first, text, signed([]byte(text), x.seeds...), 5, second, x.want)
		again := signed([]byte(modelText(first)), x.seeds...)
		expectRotated(t, fmt.Sprintf("the first one again, signed by %d", x.seeds), first, modelText(first), again, 5, first, api.ErrOrder)
	}
}
