package trust_test

import (
	"fmt"
	"slices"
	"strings"
	"testing"

	"admission/api"
	"admission/trust"
)

// expectValid checks Valid, and that it is what the model says.
func expectValid(t *testing.T, name string, r api.Root, want bool) {
	t.Helper()
	if got := trust.Valid(r); got != want || modelValid(r) != want {
		t.Errorf("%s: %t, want %t and not %t", name, got, want, !want)
	}
}

// smallest returns the root document with the least of everything.
func smallest() api.Root {
	return api.Root{Version: 1, Quotas: []api.Quota{{Role: "root", Need: 1}}, Keys: []api.Key{key(0, "a", 0, 1, "root")}}
}

// validRoots returns root documents of all sorts.
func validRoots() []named {
	r := sample()
	return []named{
		{"the sample", r},
		{"the smallest one", smallest()},
		{"the largest one", many(12, 32, 64, 11)},
		{"no revocations", changed(r, func(r *api.Root) { r.Revoked = nil })},
		{"empty slices", changed(smallest(), func(r *api.Root) { r.Revoked = []api.Revocation{} })},
		{"the last version, for ever", changed(r, func(r *api.Root) { r.Version, r.Expires = maxNumber, maxNumber })},
		{"expired when it begins", changed(r, func(r *api.Root) { r.Expires = 0 })},
		{"a zero key that is revoked", changed(r, func(r *api.Root) { r.Revoked = append(r.Revoked, api.Revocation{}) })},
		{"roles without quotas", changed(r, func(r *api.Root) { r.Quotas = []api.Quota{{Role: "root", Need: 3}} })},
		{"quotas that nobody can fulfil", changed(r, func(r *api.Root) { r.Quotas[0].Need, r.Quotas[2].Need = 32, 32 })},
	}
}

// invalidRoots returns root documents that are not valid, each for one reason.
func invalidRoots() []named {
	r := sample()
	out := []named{{"the zero root document", api.Root{}}}
	add := func(name string, change func(r *api.Root)) {
		x := copied(r)
		change(&x)
		out = append(out, named{name, x})
	}
	addKey := func(name string, change func(k *api.Key)) {
		for i := range r.Keys {
			add(fmt.Sprintf("%s, key %d", name, i), func(r *api.Root) { change(&r.Keys[i]) })
		}
	}
	add("no version", func(r *api.Root) { r.Version = 0 })
	add("a version too great", func(r *api.Root) { r.Version = maxNumber + 1 })
	add("expired before the beginning", func(r *api.Root) { r.Expires = -1 })
	add("expires too late", func(r *api.Root) { r.Expires = maxNumber + 1 })
	for i := range r.Quotas {
		add("no owner needed", func(r *api.Root) { r.Quotas[i].Need = 0 })
		add("too many owners needed", func(r *api.Root) { r.Quotas[i].Need = 33 })
		add("a quota twice", func(r *api.Root) { r.Quotas = slices.Insert(r.Quotas, i, r.Quotas[i]) })
	}
	add("a role that is no name", func(r *api.Root) { r.Quotas[0].Role = "Layout" })
	add("a role without a name", func(r *api.Root) { r.Quotas[0].Role = "" })
	add("quotas in another order", func(r *api.Root) { slices.Reverse(r.Quotas) })
	add("no quota for root", func(r *api.Root) { r.Quotas = slices.Delete(r.Quotas, 1, 2) })
	add("no quotas", func(r *api.Root) { r.Quotas = nil })
	add("too few owners", func(r *api.Root) { r.Quotas[1].Need = 4 })
	add("no keys", func(r *api.Root) { r.Keys = nil })
	add("keys in another order", func(r *api.Root) { slices.Reverse(r.Keys) })
	addKey("a negative height", func(k *api.Key) { k.Public.Height = -1 })
	addKey("a height too great", func(k *api.Key) { k.Public.Height = 7 })
	addKey("a height with the same ID", func(k *api.Key) { k.Public.Height += 256 })
	addKey("no owner", func(k *api.Key) { k.Owner = "" })
	addKey("an owner that is no name", func(k *api.Key) { k.Owner = "-anna" })
	addKey("no roles", func(k *api.Key) { k.Roles = nil })
	addKey("an empty role", func(k *api.Key) { k.Roles = append([]string{""}, k.Roles...) })
	addKey("a role of a key that is no name", func(k *api.Key) { k.Roles = append(k.Roles, "~") })
	addKey("a role twice", func(k *api.Key) { k.Roles = append(k.Roles, k.Roles[len(k.Roles)-1]) })
	addKey("roles in another order", func(k *api.Key) { k.Roles = append(k.Roles, "a") })
	addKey("too many roles", func(k *api.Key) { k.Roles = append(names(12), "root") })
	addKey("begins before the beginning", func(k *api.Key) { k.From = -1 })
	addKey("ends when it begins", func(k *api.Key) { k.Until = k.From })
	addKey("ends before it begins", func(k *api.Key) { k.Until = k.From - 1 })
	addKey("ends too late", func(k *api.Key) { k.Until = maxNumber + 1 })
	for i := range r.Keys {
		add("a key twice", func(r *api.Root) { r.Keys = slices.Insert(r.Keys, i, r.Keys[i]) })
	}
	for i := range r.Revoked {
		add("revoked before the beginning", func(r *api.Root) { r.Revoked[i].At = -1 })
		add("revoked too late", func(r *api.Root) { r.Revoked[i].At = maxNumber + 1 })
		add("a revocation twice", func(r *api.Root) { r.Revoked = slices.Insert(r.Revoked, i, r.Revoked[i]) })
		add("a key revoked at two times", func(r *api.Root) {
			r.Revoked = slices.Insert(r.Revoked, i, api.Revocation{Key: r.Revoked[i].Key, At: 1})
		})
	}
	add("revocations in another order", func(r *api.Root) { slices.Reverse(r.Revoked) })
	return append(out,
		named{"too many quotas", many(13, 1, 0, 0)},
		named{"too many keys", many(1, 33, 0, 0)},
		named{"too many revocations", many(1, 1, 65, 0)},
		named{"too many of all", many(100, 100, 100, 100)},
	)
}

// Promise 11.1.
func TestValid(t *testing.T) {
	for _, x := range validRoots() {
		expectValid(t, x.name, x.r, true)
	}
	for _, x := range invalidRoots() {
		expectValid(t, x.name, x.r, false)
	}
}

// Promise 11.1: numbers around all limits, at each place.
func TestValidNumbers(t *testing.T) {
	for _, n := range numbers() {
		expectNumber := func(name string, want bool, change func(r *api.Root)) {
			t.Helper()
			expectValid(t, fmt.Sprintf("%s %d", name, n), changed(sample(), change), want)
		}
		expectNumber("Version", 1 <= n && n <= 1<<40, func(r *api.Root) { r.Version = n })
		expectNumber("Expires", 0 <= n && n <= 1<<40, func(r *api.Root) { r.Expires = n })
		expectNumber("Need", 1 <= n && n <= 32, func(r *api.Root) { r.Quotas[2].Need = int(n) })
		for i := range sample().Keys {
			expectNumber("From", 0 <= n && n < 50, func(r *api.Root) { r.Keys[i].From, r.Keys[i].Until = n, 50 })
			expectNumber("Until", 30 < n && n <= 1<<40, func(r *api.Root) { r.Keys[i].From, r.Keys[i].Until = 30, n })
		}
		for i := range sample().Revoked {
			expectNumber("At", 0 <= n && n <= 1<<40, func(r *api.Root) { r.Revoked[i].At = n })
		}
	}
	for height := range int64(600) {
		height -= 300
		r := changed(smallest(), func(r *api.Root) { r.Keys[0].Public.Height = int(height) })
		expectValid(t, fmt.Sprintf("Height %d", height), r, 0 <= height && height <= 6)
	}
}

// Promise 11.1: lists of every length around their limits.
func TestValidLengths(t *testing.T) {
	for n := range 80 {
		expectValid(t, fmt.Sprintf("%d quotas", n), many(n, 1, 0, 0), 1 <= n && n <= 12)
		expectValid(t, fmt.Sprintf("%d keys", n), many(1, n, 0, 0), 1 <= n && n <= 32)
		expectValid(t, fmt.Sprintf("%d revocations", n), many(1, 1, n, 0), n <= 64)
		expectValid(t, fmt.Sprintf("%d roles", n+1), many(1, 3, 0, n), n < 12)
		expectValid(t, fmt.Sprintf("%d quotas, keys, revocations and roles", n+1), many(n+1, n+1, n+1, n), n < 12)
	}
}

// Promise 11.1: each list in every order.
func TestValidOrders(t *testing.T) {
	r := changed(sample(), func(r *api.Root) {
		r.Quotas = append(r.Quotas, api.Quota{Role: "r", Need: 1})
		r.Keys = r.Keys[:5]
		r.Keys = append(r.Keys, key(8, "a", 0, 1, "root"), key(9, "b", 0, 1, "root"))
		r.Revoked = append(r.Revoked, api.Revocation{Key: api.Digest{31: 1}}, api.Revocation{Key: api.Digest{0: 255}})
	})
	right := 0
	check := func(name string, x api.Root) {
		want := equal(x, r)
		if want {
			right++
		}
		expectValid(t, name, x, want)
	}
	expectValid(t, "in order", r, true)
	permutations(r.Quotas, func(l []api.Quota) {
		x := copied(r)
		x.Quotas = l
		check("quotas", x)
	})
	permutations(r.Keys, func(l []api.Key) {
		x := copied(r)
		x.Keys = l
		check("keys", x)
	})
	permutations(r.Revoked, func(l []api.Revocation) {
		x := copied(r)
		x.Revoked = l
		check("revocations", x)
	})
	roles := []string{"-", "0", "0-", "a", "a.b", "root"}
	permutations(roles[1:], func(l []string) {
		x := smallest()
		x.Keys[0].Roles = l
		expectValid(t, strings.Join(l, " "), x, slices.Equal(l, roles[1:]))
	})
	if right != 3 {
		t.Errorf("%d orders are right, want 3", right)
	}
}

// Promise 11.1: names and others, at each place where a name belongs.
func TestValidNames(t *testing.T) {
	words := []string{"", "a", "z", "0", "9", "a-b", "a_b", "a.b", "a-", "a_", "a.", "-a", "_a", ".a", "~", " ", "a b", "a ", " a", "A", "aB", "é", "a\x00", "a\n", "anna"}
	words = append(words, strings.Repeat("n", 64), strings.Repeat("n", 65), strings.Repeat("n", 40000))
	for c := range 256 {
		words = append(words, string([]byte{byte(c)}), "n"+string([]byte{byte(c)}), "n"+string([]byte{byte(c)})+"n")
	}
	for _, w := range words {
		want := nameForm.MatchString(w)
		name := fmt.Sprintf("%.70q", w)
		expectValid(t, "owner "+name, changed(smallest(), func(r *api.Root) { r.Keys[0].Owner = w }), want)
		// A role that is root already would be there twice.
		expectValid(t, "role of a quota "+name, changed(smallest(), func(r *api.Root) { r.Quotas = append(r.Quotas, api.Quota{Role: w, Need: 1}) }), want)
		expectValid(t, "role of a key "+name, changed(smallest(), func(r *api.Root) {
			r.Keys[0].Roles = append(r.Keys[0].Roles, w)
			slices.Sort(r.Keys[0].Roles)
		}), want)
		expectValid(t, "only role of a key "+name, changed(smallest(), func(r *api.Root) { r.Keys = append(r.Keys, key(1, "b", 0, 1, w)) }), want)
	}
}

// Promise 11.1: owners with the role root, each once, against the number that is needed.
func TestValidOwners(t *testing.T) {
	for owners := range 9 {
		for keys := 1; keys <= 3; keys++ {
			for need := 1; need <= 10; need++ {
				r := api.Root{Version: 1, Quotas: []api.Quota{{Role: "root", Need: need}}}
				for n := range owners * keys {
					r.Keys = append(r.Keys, key(n, names(owners)[n%owners], 0, 1, "root"))
				}
				// None of these counts.
				for i, role := range []string{"roo", "roots", "step", "r", "toor"} {
					r.Keys = append(r.Keys, key(100+i, "other"+role, 0, 1, role))
				}
				expectValid(t, fmt.Sprintf("%d owners with %d keys each, %d needed", owners, keys, need), sorted(r), need <= owners)
			}
		}
	}
}

// Promise 11.1: owners count whether or not their keys do at any time, and only the quota of root does.
func TestValidOwnersAtNoTime(t *testing.T) {
	r := changed(sample(), func(r *api.Root) {
		r.Expires = 0
		r.Quotas[1].Need = 3
		for _, k := range r.Keys {
			r.Revoked = append(r.Revoked, api.Revocation{Key: modelID(k.Public)})
		}
		r.Revoked = slices.CompactFunc(sorted(*r).Revoked, func(x, y api.Revocation) bool { return x.Key == y.Key })
	})
	expectValid(t, "all keys are revoked", r, true)
	r.Quotas[1].Need = 4
	expectValid(t, "all keys are revoked, and one is missing", r, false)
	expectValid(t, "the role root of no key", changed(smallest(), func(r *api.Root) { r.Keys[0].Roles = []string{"step"} }), false)
	expectValid(t, "the last role", changed(smallest(), func(r *api.Root) { r.Keys[0].Roles = []string{"a", "root"} }), true)
	expectValid(t, "the first role", changed(smallest(), func(r *api.Root) { r.Keys[0].Roles = []string{"root", "step"} }), true)
}

// Promises 11.2 to 11.7: nobody vouches for anything by a root document that is not valid.
func TestInvalidRootsSayNothing(t *testing.T) {
	good := sample()
	text := []byte(modelText(changed(good, func(r *api.Root) { r.Version++ })))
	for _, x := range invalidRoots() {
		if b, e := trust.Encode(x.r); e != api.ErrInvalid || len(b) != 0 {
			t.Errorf("%s: Encode: %.40q %d", x.name, b, e)
		}
		for n := range 10 {
			if trust.Counts(x.r, id(n), 25) {
				t.Errorf("%s: key %d counts", x.name, n)
			}
		}
		all := ids(0, 1, 2, 3, 4, 5, 6, 7, 8, 9)
		for _, role := range []string{"root", "step", "layout", "other", "Layout", ""} {
			if l := trust.Vouched(x.r, role, all, 25); len(l) != 0 {
				t.Errorf("%s: %s: %q vouched", x.name, role, l)
			}
			if n := trust.Need(x.r, role); n != 0 {
				t.Errorf("%s: %s: Need %d", x.name, role, n)
			}
			if trust.Enough(x.r, role, all, 25) {
				t.Errorf("%s: %s: enough", x.name, role)
			}
		}
		if l := trust.Times(x.r, all); len(l) != 0 {
			t.Errorf("%s: Times: %v", x.name, l)
		}
		expectChanged(t, x.name+", and the sample", x.r, good, nil, nil, true)
		expectChanged(t, "the sample, and "+x.name, good, x.r, nil, nil, true)
		expectChanged(t, x.name+" twice", x.r, x.r, nil, nil, true)
		for _, b := range [][]byte{text, nil, make([]byte, api.MaxDocument+1)} {
			r, e := trust.Rotate(x.r, b, all, 25)
			expect(t, x.name+": Rotate", r, e, api.Root{}, api.ErrInvalid)
		}
	}
}
