package store_test

import (
	"bytes"
	"crypto/sha256"
	"fmt"
	"maps"
	"slices"
	"strings"
	"sync"
	"testing"

	"admission/api"
	"admission/digest"
	"admission/store"
)

// some returns a Digest for each number, the zero Digest for 0.
func some(n int) api.Digest {
	var d api.Digest
	for i := range 8 {
		d[31-i] = byte(n >> (8 * i))
	}
	return d
}

func compare(a, b api.Digest) int { return bytes.Compare(a[:], b[:]) }

// sums returns the digests of the contents.
func sums(contents ...[]byte) []api.Digest {
	var l []api.Digest
	for _, x := range contents {
		l = append(l, sha256.Sum256(x))
	}
	return l
}

// table describes a store without an order.
type table map[api.Digest]string

// tableOf describes the store that holds the contents, and nothing else.
func tableOf(contents ...[]byte) table {
	m := table{}
	for _, x := range contents {
		m[sha256.Sum256(x)] = string(x)
	}
	return m
}

// blobs returns the store that m describes.
func (m table) blobs() []api.Blob {
	var s []api.Blob
	for _, d := range slices.SortedFunc(maps.Keys(m), compare) {
		s = append(s, api.Blob{Digest: d, Data: []byte(m[d])})
	}
	return s
}

// holding returns the store that holds the contents, and nothing else.
func holding(contents ...[]byte) []api.Blob { return tableOf(contents...).blobs() }

// words returns the contents that are these words.
func words(l ...string) [][]byte {
	var out [][]byte
	for _, w := range l {
		out = append(out, []byte(w))
	}
	return out
}

// many returns n blobs in ascending order, all of the same Data, which has none of their Digests.
func many(n int, data []byte) []api.Blob {
	var s []api.Blob
	for i := range n {
		s = append(s, api.Blob{Digest: some(i + 1), Data: data})
	}
	return s
}

// of returns a blob with the Digest of a number and with any Data.
func of(n int, data string) api.Blob { return api.Blob{Digest: some(n), Data: []byte(data)} }

func same(a, b []api.Blob) bool {
	return slices.EqualFunc(a, b, func(x, y api.Blob) bool { return x.Digest == y.Digest && bytes.Equal(x.Data, y.Data) })
}

// brief returns a short text of s.
func brief(s []api.Blob) string {
	var b strings.Builder
	fmt.Fprintf(&b, "%d blobs:", len(s))
	for _, x := range s[:min(len(s), 8)] {
		fmt.Fprintf(&b, " %x..%x=%.20q", x.Digest[:2], x.Digest[30:], x.Data)
	}
	return b.String()
}

// expect checks the result of a call that may have failed: no blobs beside an error.
func expect(t *testing.T, name string, got []api.Blob, e api.Errno, want []api.Blob, wantErr api.Errno) {
	t.Helper()
	if e != wantErr {
		t.Errorf("%s: error %d, want %d", name, e, wantErr)
	}
	if !same(got, want) {
		t.Errorf("%s: %s, want %s", name, brief(got), brief(want))
	}
}

// expectPut checks what Put returns: no blobs and the zero Digest beside an error.
func expectPut(t *testing.T, name string, s []api.Blob, data []byte, want []api.Blob, wantErr api.Errno) {
	t.Helper()
	got, d, e := store.Put(s, data)
	expect(t, name, got, e, want, wantErr)
	var wantSum api.Digest
	if wantErr == api.OK {
		wantSum = sha256.Sum256(data)
	}
	if d != wantSum {
		t.Errorf("%s: digest %x, want %x", name, d, wantSum)
	}
}

// stores returns valid stores of all sorts.
func stores() [][]api.Blob {
	large := make([]byte, api.MaxDocument)
	return [][]api.Blob{
		nil, {}, {of(0, "")}, {of(1, "x")}, {of(0, "x"), of(1, "x")}, {{Digest: some(1)}, {Digest: some(2), Data: []byte{}}},
		{of(1, "a"), of(2, "b"), of(0x100, "c"), of(0x7f00, "d"), of(0x8000, "e")},
		{{Digest: api.Digest{0x7f, 0xff}}, {Digest: api.Digest{0x80}}, {Digest: api.Digest{0xff}}},
		holding(words("a", "b", "", "c")...), holding(large), {{Digest: some(1), Data: large}, {Digest: some(2), Data: large}},
		many(api.MaxBlobs-1, nil), many(api.MaxBlobs, []byte("x")), many(api.MaxBlobs, large),
	}
}

// notStores returns lists that are not valid stores, with their names.
func notStores() map[string][]api.Blob {
	huge := make([]byte, api.MaxDocument+1)
	one := of(1, "a")
	return map[string][]api.Blob{
		"descending":              {of(2, "a"), of(1, "b")},
		"descending at the start": {of(2, "a"), of(1, "b"), of(3, "c"), of(4, "d")},
		"descending at the end":   {of(1, "a"), of(2, "b"), of(4, "c"), of(3, "d")},
		"zero last":               {of(1, "a"), of(0, "b")},
		"bytes are unsigned":      {{Digest: api.Digest{0x80}}, {Digest: api.Digest{0x7f}}},
		"the first byte counts":   {{Digest: api.Digest{1}}, {Digest: api.Digest{0, 2}}},
		"a Digest twice":          {one, one},
		"zero twice":              {of(0, "a"), of(0, "a")},
		"a Digest twice, changed": {of(1, "a"), of(1, "b")},
		"a Digest twice, at last": {of(1, "a"), of(2, "b"), of(2, "b")},
		"a Digest twice, apart":   {of(1, "a"), of(2, "b"), of(1, "a")},
		"too much data":           {{Digest: some(1), Data: huge}},
		"too much data, rightly":  holding(huge),
		"too much data first":     {{Digest: some(1), Data: huge}, of(2, "b"), of(3, "c")},
		"too much data inside":    {of(1, "a"), {Digest: some(2), Data: huge}, of(3, "c")},
		"too much data last":      {of(1, "a"), of(2, "b"), {Digest: some(3), Data: huge}},
		"one blob too many":       many(api.MaxBlobs+1, nil),
		"far too many":            many(10000, []byte("x")),
		"too many, all the same":  slices.Repeat([]api.Blob{one}, api.MaxBlobs+1),
	}
}

// Promise 5.1: each of the conditions of a valid store, of which the right Digests are none.
func TestValid(t *testing.T) {
	for _, s := range stores() {
		if !store.Valid(s) {
			t.Errorf("not valid: %s", brief(s))
		}
	}
	for name, s := range notStores() {
		if store.Valid(s) {
			t.Errorf("valid: %s", name)
		}
	}
}

// Promise 5.1: the order of Digests that differ at any byte.
func TestOrderOfDigests(t *testing.T) {
	values := []byte{0, 1, 0x7f, 0x80, 0xff}
	for place := range 32 {
		for _, x := range values {
			for _, y := range values {
				var a, b api.Digest
				a[place], b[place] = x, y
				if place < 31 {
					a[31] = 5
				}
				want := bytes.Compare(a[:], b[:]) < 0
				if got := store.Valid([]api.Blob{{Digest: a}, {Digest: b}}); got != want {
					t.Errorf("%x before %x: %t", a, b, got)
				}
			}
		}
	}
}

// Promise 5.1: Audit of right and wrong Digests, in the order of any list.
func TestAudit(t *testing.T) {
	right := holding(words("a", "b", "c", "")...)
	bent := slices.Clone(right)
	bent[1].Data, bent[3].Data = []byte("x"), []byte("y")
	exchanged := slices.Clone(right)
	exchanged[0].Data, exchanged[2].Data = right[2].Data, right[0].Data
	empty := sums(nil)[0]
	tests := []struct {
		name string
		s    []api.Blob
		want []api.Digest
	}{
		{"nothing", nil, nil},
		{"right", right, nil},
		{"right, in another order", []api.Blob{right[2], right[0], right[2]}, nil},
		{"right, more than a store", slices.Repeat(right, 100), nil},
		{"right, more data than in a store", holding(make([]byte, api.MaxDocument+1)), nil},
		{"no data", []api.Blob{{Digest: empty}}, nil},
		{"no data, wrong", []api.Blob{{Digest: some(0)}, {Digest: some(1), Data: []byte{}}}, []api.Digest{some(0), some(1)}},
		{"two wrong ones", bent, []api.Digest{right[1].Digest, right[3].Digest}},
		{"exchanged", exchanged, []api.Digest{right[0].Digest, right[2].Digest}},
		{"in the order of the list", []api.Blob{of(9, ""), right[0], of(3, "x"), of(9, "y"), right[1]}, []api.Digest{some(9), some(3), some(9)}},
		{"a Digest right and wrong", []api.Blob{right[0], {Digest: right[0].Digest, Data: []byte("x")}}, []api.Digest{right[0].Digest}},
		{"another digest of the data", []api.Blob{{Digest: digest.Leaf([]byte("a")), Data: []byte("a")}}, []api.Digest{digest.Leaf([]byte("a"))}},
	}
	for _, x := range tests {
		if got := store.Audit(x.s); !slices.Equal(got, x.want) {
			t.Errorf("%s: %x, want %x", x.name, got, x.want)
		}
	}
	all := many(api.MaxBlobs, []byte("x"))
	if got := store.Audit(all); len(got) != len(all) || got[0] != some(1) || got[len(all)-1] != some(len(all)) {
		t.Errorf("%d wrong ones", len(got))
	}
}

// Promise 5.2: contents in every order, some of them twice.
func TestPut(t *testing.T) {
	contents := words("", "a", "b", "\x00", "a\n")
	indexes := []int{0, 0, 0, 0}
	for {
		m, s := table{}, []api.Blob(nil)
		for _, i := range indexes {
			x := contents[i]
			m[sha256.Sum256(x)] = string(x)
			want := m.blobs()
			expectPut(t, fmt.Sprintf("%q into %s", x, brief(s)), s, x, want, api.OK)
			s = want
		}
		place := 0
		for place < len(indexes) && indexes[place] == len(contents)-1 {
			indexes[place] = 0
			place++
		}
		if place == len(indexes) {
			return
		}
		indexes[place]++
	}
}

// Promise 5.2: a blob with the Digest stays as it is, whatever its Data, and so do all others.
func TestPutOfWhatIsThere(t *testing.T) {
	data := []byte("there")
	d := sums(data)[0]
	before, after := api.Digest{}, api.Digest{}
	copy(before[:], d[:31])
	copy(after[:], d[:])
	after[31] = 0xff
	wrong := []api.Blob{{Digest: before, Data: []byte("x")}, {Digest: d, Data: []byte("wrong")}, {Digest: after, Data: nil}}
	if !store.Valid(wrong) {
		t.Fatal("not valid")
	}
	expectPut(t, "wrong data", wrong, data, wrong, api.OK)
	for _, s := range stores() {
		for i := range min(len(s), 3) {
			bent := slices.Clone(s)
			bent[i] = api.Blob{Digest: d, Data: []byte("wrong")}
			slices.SortFunc(bent, func(x, y api.Blob) int { return compare(x.Digest, y.Digest) })
			expectPut(t, "into "+brief(bent), bent, data, bent, api.OK)
		}
	}
}

// Promise 5.2: new contents find their place in stores of all sorts; Data of no length is Data.
func TestPutIntoOtherStores(t *testing.T) {
	for _, s := range stores() {
		for _, data := range [][]byte{nil, {}, []byte("new"), make([]byte, api.MaxDocument-1)} {
			d := sums(data)[0]
			var want []api.Blob
			for _, x := range s {
				if x.Digest != d {
					want = append(want, x)
				}
			}
			there := len(want) < len(s)
			want = append(want, api.Blob{Digest: d, Data: data})
			slices.SortFunc(want, func(x, y api.Blob) int { return compare(x.Digest, y.Digest) })
			name := fmt.Sprintf("%.10q into %s", data, brief(s))
			if len(s) == api.MaxBlobs && !there {
				expectPut(t, name, s, data, nil, api.ErrLimit)
			} else {
				expectPut(t, name, s, data, want, api.OK)
			}
		}
	}
}

// Promise 5.2, rule R5: the errors of Put, and which of them is first.
func TestErrorsOfPut(t *testing.T) {
	data, most, huge := []byte("x"), make([]byte, api.MaxDocument), make([]byte, api.MaxDocument+1)
	for name, s := range notStores() {
		for _, x := range [][]byte{nil, data, []byte("a"), most, huge} {
			expectPut(t, name, s, x, nil, api.ErrInvalid)
		}
	}
	hugeThere := []api.Blob{{Digest: sums(huge)[0], Data: data}}
	full := many(api.MaxBlobs, nil)
	fullWith := append(many(api.MaxBlobs-1, nil), holding(data)...)
	tests := []struct {
		name string
		s    []api.Blob
		data []byte
		want []api.Blob
		e    api.Errno
	}{
		{"as much data as there may be", nil, most, holding(most), api.OK},
		{"one byte too many", nil, huge, nil, api.ErrLimit},
		{"far too many bytes", nil, make([]byte, 1<<24), nil, api.ErrLimit},
		{"one byte too many, and the Digest is there", hugeThere, huge, nil, api.ErrLimit},
		{"one byte too many, and a full store", full, huge, nil, api.ErrLimit},
		{"a full store", full, data, nil, api.ErrLimit},
		{"a full store that has it", fullWith, data, fullWith, api.OK},
		{"a full store that has others", fullWith, []byte("y"), nil, api.ErrLimit},
		{"the last one", fullWith[:api.MaxBlobs-1], data, fullWith, api.OK},
	}
	for _, x := range tests {
		expectPut(t, x.name, x.s, x.data, x.want, x.e)
	}
}

// Promise 5.2: Get of Digests that are there, of others, and in lists that are not valid.
func TestGet(t *testing.T) {
	s := holding(words("a", "", "b")...)
	tests := []struct {
		s    []api.Blob
		d    api.Digest
		want string
		ok   bool
	}{
		{nil, some(0), "", false},
		{nil, some(1), "", false},
		{s, sums([]byte("a"))[0], "a", true},
		{s, sums([]byte("b"))[0], "b", true},
		{s, sums(nil)[0], "", true},
		{s, sums([]byte("c"))[0], "", false},
		{s, some(0), "", false},
		{[]api.Blob{of(0, "zero")}, some(0), "zero", true},
		{[]api.Blob{{Digest: some(1)}}, some(1), "", true},
		{[]api.Blob{of(1, "x")}, sums([]byte("x"))[0], "", false},
		{[]api.Blob{of(3, "c"), of(1, "a"), of(2, "b")}, some(1), "a", true},
		{[]api.Blob{of(3, "c"), of(1, "a"), of(2, "b")}, some(3), "c", true},
		{[]api.Blob{of(1, "first"), of(2, "b"), of(1, "second")}, some(1), "first", true},
		{[]api.Blob{of(2, "first"), of(2, ""), of(2, "third")}, some(2), "first", true},
		{[]api.Blob{of(2, ""), of(2, "second")}, some(2), "", true},
		{many(10000, []byte("x")), some(10000), "x", true},
		{many(10000, []byte("x")), some(10001), "", false},
	}
	for _, x := range tests {
		if got, ok := store.Get(x.s, x.d); string(got) != x.want || ok != x.ok {
			t.Errorf("Get of %x from %s: %q %t", x.d[30:], brief(x.s), got, ok)
		}
	}
	for i := range 32 {
		near := s[1].Digest
		near[i] ^= 1
		if got, ok := store.Get(s, near); ok || len(got) != 0 {
			t.Errorf("Get of a Digest that differs at byte %d: %q", i, got)
		}
	}
}

// smallStores returns every store with up to four Digests and one of two Data for each.
func smallStores() [][]api.Blob {
	all := [][]api.Blob{nil}
	for n := range 4 {
		var next [][]api.Blob
		for _, s := range all {
			next = append(next, s)
			for _, data := range []string{"", "x"} {
				next = append(next, append(slices.Clone(s), of(n, data)))
			}
		}
		all = next
	}
	return all
}

// merged describes Merge with a map, without its limit.
func merged(a, b []api.Blob) ([]api.Blob, api.Errno) {
	m := table{}
	for _, x := range slices.Concat(a, b) {
		if data, ok := m[x.Digest]; ok && data != string(x.Data) {
			return nil, api.ErrMismatch
		}
		m[x.Digest] = string(x.Data)
	}
	return m.blobs(), api.OK
}

// Promise 5.5: every pair of small stores, against a description with a map.
func TestMergeOfEverySmallPair(t *testing.T) {
	all := smallStores()
	met := 0
	for _, a := range all {
		for _, b := range all {
			want, wantErr := merged(a, b)
			got, e := store.Merge(a, b)
			expect(t, brief(a)+" and "+brief(b), got, e, want, wantErr)
			if e == api.OK {
				met++
			}
		}
	}
	if met < 1000 {
		t.Errorf("only %d pairs met", met)
	}
}

// Promise 5.5: lists that are not valid, on either side.
func TestMergeOfOtherLists(t *testing.T) {
	for name, s := range notStores() {
		for _, other := range append(stores(), s) {
			got, e := store.Merge(s, other)
			expect(t, name+" on the left", got, e, nil, api.ErrInvalid)
			got, e = store.Merge(other, s)
			expect(t, name+" on the right", got, e, nil, api.ErrInvalid)
		}
	}
}

// Promise 5.5, rule R5: results of exactly MaxBlobs blobs and of more, and mismatches among them.
func TestLimitsOfMerge(t *testing.T) {
	const most = api.MaxBlobs
	all := many(2*most, []byte("x"))
	full := all[:most]
	bent := slices.Concat(full[:most-1], []api.Blob{of(most, "y")})
	odd, even := []api.Blob(nil), []api.Blob(nil)
	for i := range most / 2 {
		even, odd = append(even, all[2*i]), append(odd, all[2*i+1])
	}
	large := make([]byte, api.MaxDocument)
	tests := []struct {
		name string
		a, b []api.Blob
		want []api.Blob
		e    api.Errno
	}{
		{"full and nothing", full, nil, full, api.OK},
		{"full twice", full, full, full, api.OK},
		{"full and a part", full, full[7:9], full, api.OK},
		{"two halves", even, odd, full, api.OK},
		{"halves that overlap", full[:200], full[100:], full, api.OK},
		{"full and one more", full, all[most : most+1], nil, api.ErrLimit},
		{"full and zero", full, []api.Blob{of(0, "x")}, nil, api.ErrLimit},
		{"two full ones", full, all[most:], nil, api.ErrLimit},
		{"halves and one more", all[:200], all[100 : most+1], nil, api.ErrLimit},
		{"full and full, changed", full, bent, nil, api.ErrMismatch},
		{"one too many, and a mismatch", full, slices.Concat([]api.Blob{of(0, "x")}, bent[most-1:]), nil, api.ErrMismatch},
		{"a mismatch, and one too many", full, []api.Blob{of(3, "y"), of(most+1, "x")}, nil, api.ErrMismatch},
		{"a mismatch, and far too many", bent, all[most-1 : 2*most-1], nil, api.ErrMismatch},
		{"a mismatch by length", full, []api.Blob{of(5, "")}, nil, api.ErrMismatch},
		{"a mismatch at the end of much data", []api.Blob{{Digest: some(1), Data: large}}, []api.Blob{{Digest: some(1), Data: append(slices.Clone(large[1:]), 1)}}, nil, api.ErrMismatch},
		{"no data is empty data", []api.Blob{{Digest: some(1)}}, []api.Blob{{Digest: some(1), Data: []byte{}}}, []api.Blob{of(1, "")}, api.OK},
		{"wrong Digests do not matter", []api.Blob{of(1, "x")}, []api.Blob{of(2, "x")}, []api.Blob{of(1, "x"), of(2, "x")}, api.OK},
	}
	for _, x := range tests {
		got, e := store.Merge(x.a, x.b)
		expect(t, x.name, got, e, x.want, x.e)
		got, e = store.Merge(x.b, x.a)
		expect(t, x.name+", the other way", got, e, x.want, x.e)
	}
}

// Promise 5.6: the Digests of any list, in its order, and not the Data.
func TestRoot(t *testing.T) {
	lists := append(stores(), []api.Blob{of(3, "c"), of(1, "a"), of(1, "a"), of(0, "")}, many(1000, nil))
	for n := range 20 {
		lists = append(lists, many(n, []byte("x")))
	}
	for _, s := range lists {
		var l []api.Digest
		for _, x := range s {
			l = append(l, x.Digest)
		}
		if got, want := store.Root(s), digest.Tree(l); got != want {
			t.Errorf("%s: %x, want %x", brief(s), got, want)
		}
	}
	if store.Root(nil) != (api.Digest{}) || store.Root([]api.Blob{of(7, "x")}) != some(7) {
		t.Error("the root of nothing, or of one blob")
	}
	a, b := []api.Blob{of(1, "a"), of(2, "b")}, []api.Blob{of(2, "b"), of(1, "a")}
	if store.Root(a) == store.Root(b) || store.Root(a) != digest.Node(some(1), some(2)) {
		t.Error("the order of the blobs")
	}
}

// roomy returns a copy of l with memory after its elements, and a function that checks that neither has changed.
func roomy[T any](t *testing.T, l []T, filler T, equal func(x, y T) bool) ([]T, func()) {
	memory := append(slices.Clone(l), slices.Repeat([]T{filler}, len(l)+8)...)
	old := slices.Clone(memory)
	return memory[:len(l)], func() {
		t.Helper()
		if !slices.EqualFunc(memory, old, equal) {
			t.Error("an argument was modified")
		}
	}
}

// roomyStore returns a copy of s, with memory after its blobs and after the Data of each, and a function that checks that none of it has changed.
func roomyStore(t *testing.T, s []api.Blob) ([]api.Blob, func()) {
	checks := []func(){}
	l := slices.Clone(s)
	for i := range l {
		data, check := roomy(t, l[i].Data, '!', func(x, y byte) bool { return x == y })
		l[i].Data = data
		checks = append(checks, check)
	}
	l, check := roomy(t, l, of(1<<40, "filler"), func(x, y api.Blob) bool { return x.Digest == y.Digest && bytes.Equal(x.Data, y.Data) })
	return l, func() {
		t.Helper()
		for _, f := range append(checks, check) {
			f()
		}
	}
}

// Rule R4: neither the arguments nor the memory after them are modified.
func TestArgumentsStay(t *testing.T) {
	leaf := []byte("leaf")
	middle := text("middle", sums(leaf)...)
	a, checkA := roomyStore(t, holding(leaf, middle, []byte("other")))
	b, checkB := roomyStore(t, holding(leaf, []byte("more"), nil))
	data, checkData := roomy(t, text("top", sums(middle)...), '!', func(x, y byte) bool { return x == y })
	roots, checkRoots := roomy(t, append(sums(middle, leaf, middle), some(0), some(7)), some(9), func(x, y api.Digest) bool { return x == y })
	store.Valid(a)
	store.Put(a, data)
	store.Put(a, leaf)
	store.Get(a, sums(leaf)[0])
	store.Audit(a)
	store.Links(data)
	store.Closure(a, roots)
	store.Sweep(a, roots)
	store.Merge(a, b)
	store.Merge(b, a)
	store.Root(a)
	checkA()
	checkB()
	checkData()
	checkRoots()
}

// ruin changes all that a result holds, also what is not visible yet: the memory after it.
func ruin(s []api.Blob) {
	for i := range s {
		all := s[i].Data[:cap(s[i].Data)]
		for j := range all {
			all[j] = '!'
		}
		s[i].Digest[0] ^= 0xff
	}
	clear(s[:cap(s)])
}

// Rules of the language, 7: results are new memory, and so is the Data of each of their blobs.
func TestResultsAreNewMemory(t *testing.T) {
	data := words("a", "bb", "ccc")
	s := holding(data...)
	old := holding(data...)
	added := []byte("dddd")
	results := map[string]func() []api.Blob{
		"Put":             func() []api.Blob { l, _, _ := store.Put(s, added); return l },
		"Put of the same": func() []api.Blob { l, _, _ := store.Put(s, data[1]); return l },
		"Merge":           func() []api.Blob { l, _ := store.Merge(s, nil); return l },
		"Merge, right":    func() []api.Blob { l, _ := store.Merge(nil, s); return l },
		"Merge of both":   func() []api.Blob { l, _ := store.Merge(s[:2], s[1:]); return l },
		"Sweep":           func() []api.Blob { l, _ := store.Sweep(s, sums(data...)); return l },
		"Get": func() []api.Blob {
			var l []api.Blob
			for range 2 {
				b, _ := store.Get(s, s[0].Digest)
				l = append(l, api.Blob{Data: b})
			}
			return l
		},
	}
	for name, call := range results {
		first := call()
		if len(first) < 2 {
			t.Errorf("%s: %s", name, brief(first))
		}
		ruin(first)
		if !same(s, old) || string(added) != "dddd" {
			t.Fatalf("%s: a result shares memory with an argument", name)
		}
	}
	shared := []byte("shared")
	apart, _ := store.Merge([]api.Blob{{Digest: some(1), Data: shared}, {Digest: some(2), Data: shared}}, nil)
	ruin(apart[:1:1])
	if string(apart[1].Data) != "shared" {
		t.Error("two blobs of a result share memory")
	}
}

// Rule R3: calls at the same time have the same results.
func TestCallsAreIndependent(t *testing.T) {
	leaf := []byte("leaf")
	middle := text("middle", sums(leaf)...)
	s := holding(leaf, middle, []byte("other"))
	want := holding(leaf, middle)
	var group sync.WaitGroup
	for range 8 {
		group.Go(func() {
			for range 200 {
				if got, e := store.Sweep(s, sums(middle)); e != api.OK || !same(got, want) {
					t.Errorf("%s %d", brief(got), e)
				}
				if got, _, e := store.Put(want, []byte("other")); e != api.OK || !same(got, s) {
					t.Errorf("%s %d", brief(got), e)
				}
			}
		})
	}
	group.Wait()
}
