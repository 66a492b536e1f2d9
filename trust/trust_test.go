package trust_test

import (
	"fmt"
	"math"
	"slices"
	"sync"
	"testing"

	"admission/api"
	"admission/trust"
)

// expectKey checks Find.
func expectKey(t *testing.T, name string, r api.Root, d api.Digest, want api.Key, wantFound bool) {
	t.Helper()
	if got, found := trust.Find(r, d); found != wantFound || !equalKeys(got, want) {
		t.Errorf("%s: %v %t, want %v %t", name, got, found, want, wantFound)
	}
}

// expectCounts checks Counts.
func expectCounts(t *testing.T, r api.Root, n int, at int64, want bool) {
	t.Helper()
	if got := trust.Counts(r, id(n), at); got != want {
		t.Errorf("key %d at %d: %t, want %t", n, at, got, want)
	}
}

// expectVouched checks Vouched.
func expectVouched(t *testing.T, r api.Root, role string, keys []api.Digest, at int64, want ...string) {
	t.Helper()
	if got := trust.Vouched(r, role, keys, at); !slices.Equal(got, want) {
		t.Errorf("%s at %d, %d keys: %q, want %q", role, at, len(keys), got, want)
	}
}

// expectTimes checks Times.
func expectTimes(t *testing.T, r api.Root, keys []api.Digest, want ...int64) {
	t.Helper()
	if got := trust.Times(r, keys); !slices.Equal(got, want) {
		t.Errorf("%d keys: %v, want %v", len(keys), got, want)
	}
}

// moments returns the times around those that the sample names, and some that are far away.
func moments() []int64 {
	l := numbers()
	for n := int64(-2); n < 105; n++ {
		l = append(l, n)
	}
	return l
}

// subsets calls visit with every subset of the keys 1 to 7, in every second case in descending order.
func subsets(visit func(keys []int)) {
	for set := range 1 << 7 {
		var keys []int
		for n := range 7 {
			if set>>n&1 == 1 {
				keys = append(keys, n+1)
			}
		}
		if set%3%2 == 1 {
			slices.Reverse(keys)
		}
		visit(keys)
	}
}

// Promise 11.3: keys that a root document has, and others.
func TestFind(t *testing.T) {
	for _, x := range validRoots() {
		for _, k := range x.r.Keys {
			expectKey(t, x.name, x.r, modelID(k.Public), k, true)
		}
		for _, d := range []api.Digest{{}, {0: 1}, id(1000)} {
			expectKey(t, x.name, x.r, d, api.Key{}, false)
		}
	}
	expectKey(t, "a revoked key that it does not have", sample(), id(9), api.Key{}, false)
	expectKey(t, "the zero root document", api.Root{}, api.Digest{}, api.Key{}, false)
}

// Promise 11.3: the first key with an ID, also in root documents that are not valid.
func TestFindFirst(t *testing.T) {
	for _, x := range invalidRoots() {
		for i, k := range x.r.Keys {
			d := modelID(k.Public)
			first := slices.IndexFunc(x.r.Keys[:i+1], func(k api.Key) bool { return modelID(k.Public) == d })
			expectKey(t, x.name, x.r, d, x.r.Keys[first], true)
		}
	}
	one, other := key(3, "bert", 1, 2, "b", "a"), key(3, "", -5, -9)
	other.Public.Height += 256
	for _, x := range []struct {
		keys []api.Key
		want api.Key
	}{{[]api.Key{one, other}, one}, {[]api.Key{other, one}, other}, {[]api.Key{key(4, "x", 0, 0), other, other, one}, other}} {
		expectKey(t, "keys with the same ID", api.Root{Keys: x.keys}, id(3), x.want, true)
	}
}

// Promise 11.3: each bit of an ID matters.
func TestFindOtherIDs(t *testing.T) {
	r := sample()
	for bit := range 256 {
		d := id(3)
		d[bit/8] ^= 1 << (bit % 8)
		expectKey(t, fmt.Sprintf("bit %d", bit), r, d, api.Key{}, false)
		if trust.Counts(r, d, 25) || len(trust.Vouched(r, "root", []api.Digest{d}, 25)) > 0 || !slices.Equal(trust.Times(r, []api.Digest{d}), []int64{100}) {
			t.Errorf("bit %d: another key", bit)
		}
	}
}

// Promise 11.3: the first and the last times at which keys count.
func TestCounts(t *testing.T) {
	r := sample()
	for _, x := range []struct {
		key         int
		first, last int64
	}{{1, 0, 49}, {2, 10, 99}, {3, 0, 39}, {4, 5, 29}, {6, 0, 99}, {7, 30, 30}} {
		for _, at := range []int64{x.first, x.last, (x.first + x.last) / 2} {
			expectCounts(t, r, x.key, at, true)
		}
		for _, at := range []int64{x.first - 1, x.last + 1, math.MinInt64, math.MaxInt64, maxNumber, -1} {
			expectCounts(t, r, x.key, at, false)
		}
	}
	for _, n := range []int{0, 5, 8, 9, 10} {
		for _, at := range moments() {
			expectCounts(t, r, n, at, false)
		}
	}
}

// Promise 11.3: every key at every time.
func TestCountsAtAllTimes(t *testing.T) {
	for _, x := range append(variants(), validRoots()...) {
		for n := range 12 {
			for _, at := range moments() {
				expectCounts(t, x.r, n, at, modelCounts(x.r, id(n), at))
			}
		}
	}
}

// Promise 11.3: all that ends the time of a key, before, at and after each other.
func TestCountsEnds(t *testing.T) {
	for until := int64(4); until < 8; until++ {
		for expires := range int64(9) {
			for revoked := int64(-1); revoked < 9; revoked++ {
				r := api.Root{Version: 1, Expires: expires, Quotas: smallest().Quotas, Keys: []api.Key{key(0, "a", 3, until, "root")}}
				end := min(until, expires)
				if revoked >= 0 {
					r.Revoked = []api.Revocation{{Key: id(0), At: revoked}}
					end = min(end, revoked)
				}
				for at := int64(-1); at < 12; at++ {
					expectCounts(t, r, 0, at, 3 <= at && at < end)
				}
			}
		}
	}
	last := changed(smallest(), func(r *api.Root) { r.Expires, r.Keys[0].From, r.Keys[0].Until = maxNumber, maxNumber-1, maxNumber })
	expectCounts(t, last, 0, maxNumber-2, false)
	expectCounts(t, last, 0, maxNumber-1, true)
	expectCounts(t, last, 0, maxNumber, false)
}

// Promise 11.4: owners in order, each once.
func TestVouched(t *testing.T) {
	r := sample()
	expectVouched(t, r, "root", ids(6, 3, 1), 25, "anna", "bert", "dora")
	expectVouched(t, r, "root", ids(1, 2), 25, "anna")
	expectVouched(t, r, "root", ids(1, 1, 2, 1, 3, 3), 25, "anna", "bert")
	expectVouched(t, r, "root", ids(2), 9)
	expectVouched(t, r, "root", ids(5), 25)
	expectVouched(t, r, "root", ids(3), 40)
	expectVouched(t, r, "step", ids(2, 4, 6), 25, "anna", "cara", "dora")
	expectVouched(t, r, "step", ids(1, 3), 25)
	expectVouched(t, r, "other", ids(7), 30, "emil")
	expectVouched(t, r, "root", ids(8, 9, 100), 25)
	expectVouched(t, r, "root", nil, 25)
	for _, role := range []string{"", "roo", "roots", "Root", "root ", "none", "anna"} {
		expectVouched(t, r, role, ids(1, 2, 3, 4, 5, 6, 7), 25)
	}
	largest := many(12, 32, 0, 11)
	var all []api.Digest
	var owners []string
	for n := range 32 {
		all = append(all, id(n), id(n+32))
		owners = append(owners, fmt.Sprintf("owner%d", n/2))
	}
	slices.Sort(owners)
	owners = slices.Compact(owners)
	expectVouched(t, largest, "root", all, 31, owners...)
	expectVouched(t, largest, "name-005", slices.Repeat(all, 100), 31, owners...)
}

// Promise 11.4: every set of keys with all roles, at the times that matter.
func TestVouchedOfSubsets(t *testing.T) {
	r := sample()
	enough := 0
	subsets(func(keys []int) {
		for _, role := range []string{"layout", "root", "step", "other", "none", ""} {
			for _, at := range []int64{-1, 0, 4, 5, 9, 10, 19, 20, 25, 29, 30, 31, 39, 40, 49, 50, 99, 100, maxNumber} {
				expectVouched(t, r, role, ids(keys...), at, modelVouched(r, role, ids(keys...), at)...)
				want := modelEnough(r, role, ids(keys...), at)
				if want {
					enough++
				}
				if got := trust.Enough(r, role, ids(keys...), at); got != want {
					t.Errorf("%s, keys %v at %d: %t, want %t", role, keys, at, got, want)
				}
			}
		}
	})
	if enough < 500 {
		t.Errorf("only %d are enough", enough)
	}
}

// Promise 11.4: quotas that a root document has, and others.
func TestNeed(t *testing.T) {
	for _, x := range validRoots() {
		for _, q := range x.r.Quotas {
			if got := trust.Need(x.r, q.Role); got != q.Need || got < 1 {
				t.Errorf("%s: %s: %d, want %d", x.name, q.Role, got, q.Need)
			}
		}
		for _, role := range []string{"", "other", "roots", "roo", "Root", "zzz", "-", "anna", "root\x00"} {
			if got := trust.Need(x.r, role); got != 0 {
				t.Errorf("%s: %s: %d, want 0", x.name, role, got)
			}
		}
	}
}

// Promise 11.4: so many owners against the number that is needed.
func TestEnough(t *testing.T) {
	for need := 1; need <= 32; need++ {
		r := changed(many(1, 32, 0, 1), func(r *api.Root) {
			r.Quotas = append(r.Quotas, api.Quota{Role: "name-000", Need: need})
			for i := range r.Keys {
				r.Keys[i].Owner = fmt.Sprintf("owner%d", i)
			}
		})
		for n := range len(r.Keys) + 1 {
			var keys []api.Digest
			for _, k := range r.Keys[:n] {
				keys = append(keys, modelID(k.Public))
			}
			if got := trust.Enough(r, "name-000", slices.Concat(keys, keys, ids(100)), 40); got != (n >= need) {
				t.Errorf("%d of %d: %t", n, need, got)
			}
			// The role has no quota, so that no number suffices.
			if trust.Enough(changed(r, func(r *api.Root) { r.Quotas = r.Quotas[1:] }), "name-000", keys, 40) {
				t.Errorf("%d of a role without a quota", n)
			}
		}
	}
}

// Promise 11.5: times in order, each once.
func TestTimes(t *testing.T) {
	r := sample()
	expectTimes(t, r, nil, 100)
	expectTimes(t, r, ids(8, 9, 10), 100)
	expectTimes(t, r, ids(1), 0, 50, 100)
	expectTimes(t, r, ids(3), 0, 40, 100, 200)
	expectTimes(t, r, ids(5), 20, 100)
	expectTimes(t, r, ids(6, 6, 6), 0, 100, maxNumber)
	expectTimes(t, r, ids(7, 4), 5, 30, 31, 100)
	expectTimes(t, r, ids(7, 6, 5, 4, 3, 2, 1), 0, 5, 10, 20, 30, 31, 40, 50, 100, 200, maxNumber)
	expectTimes(t, changed(r, func(r *api.Root) { r.Expires = 0 }), ids(1), 0, 50)
	subsets(func(keys []int) { expectTimes(t, r, ids(keys...), modelTimes(r, ids(keys...))...) })
}

// Promise 11.5: between two of the times nothing changes.
func TestTimesAreAllTimes(t *testing.T) {
	for _, x := range append(variants(), validRoots()...) {
		for n := range 12 {
			expectTimes(t, x.r, ids(n), modelTimes(x.r, ids(n))...)
			times := trust.Times(x.r, ids(n))
			for at := int64(1); at < 105; at++ {
				if trust.Counts(x.r, id(n), at-1) != trust.Counts(x.r, id(n), at) && !slices.Contains(times, at) {
					t.Errorf("%s: key %d changes at %d, which is none of %v", x.name, n, at, times)
				}
			}
		}
	}
}

// marked returns a copy of l in which the memory behind its length is filled with x.
func marked[T any](l []T, x T) []T {
	out := slices.Grow(slices.Clone(l), 3)
	all := out[:cap(out)]
	for i := len(out); i < cap(out); i++ {
		all[i] = x
	}
	return out
}

// unmarked reports whether the memory behind the length of l is not filled with x any more.
func unmarked[T any](l []T, same func(T) bool) bool {
	return slices.ContainsFunc(l[len(l):cap(l)], func(y T) bool { return !same(y) })
}

// Rule R4: neither the arguments nor the memory after them are modified.
func TestArgumentsStay(t *testing.T) {
	r := sample()
	r.Quotas = marked(r.Quotas, api.Quota{Role: "mark"})
	r.Keys = marked(r.Keys, api.Key{Owner: "mark"})
	r.Revoked = marked(r.Revoked, api.Revocation{At: 77})
	for i := range r.Keys {
		r.Keys[i].Roles = marked(r.Keys[i].Roles, "mark")
	}
	keys := marked(ids(7, 6, 5, 5, 4, 3, 2, 1), api.Digest{1})
	text := marked([]byte(modelText(changed(r, func(r *api.Root) { r.Version++ }))), 'm')
	wantKeys, wantText := slices.Clone(keys), slices.Clone(text)
	trust.Valid(r)
	trust.Encode(r)
	trust.Decode(text)
	for _, d := range keys {
		trust.Find(r, d)
		trust.Counts(r, d, 25)
	}
	trust.Vouched(r, "root", keys, 25)
	trust.Need(r, "root")
	trust.Enough(r, "root", keys, 25)
	trust.Times(r, keys)
	trust.Changed(r, changed(r, func(r *api.Root) { r.Keys, r.Revoked = r.Keys[1:], nil }))
	if _, e := trust.Rotate(r, text, keys, 25); e != api.OK {
		t.Errorf("Rotate: %d", e)
	}
	bad := !equal(r, sample()) || !slices.Equal(keys, wantKeys) || !slices.Equal(text, wantText)
	bad = bad || unmarked(r.Quotas, func(q api.Quota) bool { return q == api.Quota{Role: "mark"} })
	bad = bad || unmarked(r.Keys, func(k api.Key) bool { return equalKeys(k, api.Key{Owner: "mark"}) })
	bad = bad || unmarked(r.Revoked, func(x api.Revocation) bool { return x == api.Revocation{At: 77} })
	for _, k := range r.Keys {
		bad = bad || unmarked(k.Roles, func(s string) bool { return s == "mark" })
	}
	bad = bad || unmarked(keys, func(d api.Digest) bool { return d == api.Digest{1} }) || unmarked(text, func(c byte) bool { return c == 'm' })
	if bad {
		t.Error("an argument was modified")
	}
}

// The rule of the language that results are new memory: who writes to them does not change an argument or a later result.
func TestResultsAreNew(t *testing.T) {
	r := sample()
	k, _ := trust.Find(r, id(1))
	clear(k.Roles)
	text := []byte(modelText(changed(r, func(r *api.Root) { r.Version++ })))
	next, _ := trust.Rotate(r, text, ids(1, 3), 25)
	for i := range next.Keys {
		clear(next.Keys[i].Roles)
	}
	clear(next.Keys)
	clear(trust.Times(r, ids(1)))
	clear(trust.Vouched(r, "root", ids(1, 3), 25))
	b, _ := trust.Encode(r)
	clear(b)
	keys, roles, _ := trust.Changed(r, smallest())
	clear(keys)
	clear(roles)
	expect(t, "the argument", r, api.OK, sample(), api.OK)
	expectKey(t, "again", r, id(1), key(1, "anna", 0, 50, "layout", "root"), true)
	next, e := trust.Rotate(r, text, ids(1, 3), 25)
	expect(t, "again", next, e, changed(r, func(r *api.Root) { r.Version++ }), api.OK)
	expectTimes(t, r, ids(1), 0, 50, 100)
	expectVouched(t, r, "root", ids(1, 3), 25, "anna", "bert")
	expectText(t, "again", r)
}

// Rule R3: calls at the same time have the same results.
func TestCallsAreIndependent(t *testing.T) {
	var group sync.WaitGroup
	r := sample()
	next := changed(r, func(r *api.Root) { r.Version++ })
	for n := range 8 {
		group.Go(func() {
			for range 20 {
				expectText(t, "at the same time", many(n+1, n+1, n, n))
				expectVouched(t, r, "root", ids(1, 3, n), 25, modelVouched(r, "root", ids(1, 3, n), 25)...)
				expectTimes(t, r, ids(n), modelTimes(r, ids(n))...)
				got, e := trust.Rotate(r, []byte(modelText(next)), ids(1, 3), 25)
				expect(t, "at the same time", got, e, next, api.OK)
			}
		})
	}
	group.Wait()
}
