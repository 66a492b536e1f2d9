package store_test

import (
	"bytes"
	"crypto/sha256"
	"fmt"
	"maps"
	"math/rand/v2"
	"slices"
	"strings"
	"testing"

	"admission/api"
	"admission/digest"
	"admission/store"
)

// text returns the encoded form of a document that refers to digests.
func text(name string, l ...api.Digest) []byte {
	out := "name " + name + "\n"
	for _, d := range l {
		out += fmt.Sprintf("ref sha256:%x\n", d[:])
	}
	return []byte(out)
}

// ordered returns the digests in ascending order, each once.
func ordered(l ...api.Digest) []api.Digest {
	return slices.Compact(slices.SortedFunc(slices.Values(l), compare))
}

// numbered returns the Digests of the numbers.
func numbered(l ...int) []api.Digest {
	var out []api.Digest
	for _, n := range l {
		out = append(out, some(n))
	}
	return out
}

// Promise 5.3: the words of documents that are digests, and those that are not.
func TestLinks(t *testing.T) {
	a, b, zero := digest.Format(some(1)), digest.Format(sums(nil)[0]), digest.Format(some(0))
	one, two := some(1), sums(nil)[0]
	tests := []struct {
		data string
		want []api.Digest
	}{
		{"", nil},
		{"x\n", nil},
		{a + "\n", []api.Digest{one}},
		{a + " x y\n", []api.Digest{one}},
		{"x " + a + " y\n", []api.Digest{one}},
		{"x y " + a + "\n", []api.Digest{one}},
		{"x\n" + a + "\ny\n", []api.Digest{one}},
		{"file a " + a + "\nfile b " + b + "\n", []api.Digest{one, two}},
		{"file a " + b + "\nfile b " + a + "\n", []api.Digest{two, one}},
		{a + " " + b + " " + a + " " + b + "\n", []api.Digest{one, two}},
		{b + " " + a + "\n" + a + " " + b + "\n", []api.Digest{two, one}},
		{b + "\n" + b + "\n" + a + "\n" + b + "\n", []api.Digest{two, one}},
		{zero + "\n", nil},
		{zero + " " + b + " " + zero + "\n" + a + " " + zero + "\n", []api.Digest{two, one}},
		{a[7:] + "\n", nil},
		{"x" + a + " " + a + "x ~ " + a[:70] + " " + a + "0\n", nil},
		{strings.ToUpper(b) + " " + strings.Replace(b, "sha256:", "SHA256:", 1) + "\n", nil},
		{"sha256: " + a[7:] + "\n", nil},
		{"%20" + a + " " + a + "%20\n", nil},
		{a + "%0A" + b + " x\n", nil},
		{"x%20" + a + " " + b + "\n", []api.Digest{two}},
	}
	for _, x := range tests {
		if got := store.Links([]byte(x.data)); !slices.Equal(got, x.want) {
			t.Errorf("%.200q: %x, want %x", x.data, got, x.want)
		}
	}
	if got := store.Links(nil); len(got) != 0 {
		t.Errorf("nil: %x", got)
	}
}

// Promise 5.3: data that is the encoded form of no document, though digests are in it.
func TestLinksOfOtherData(t *testing.T) {
	a := digest.Format(some(1))
	others := []string{
		a, a + "\n" + a, "\n" + a + "\n", a + "\n\n", a + "\n\n" + a + "\n", " " + a + "\n", a + " \n", a + "  x\n", a + "\t\n", a + "\r\n",
		a + " \x00\n", a + " é\n", a + " %41\n", a + " %0a\n", a + " %\n", a + " %2\n", a + " a~\n", a + " a%7E~\n", a + " \xff\n", a + "\n ", "x\n" + a,
		"sha256%3A" + a[7:] + "\n", "%73" + a[1:] + "\n", a[:70] + "%31\n",
		strings.Repeat(a+"\n", api.MaxLines+1), a + strings.Repeat(" x", api.MaxWords) + "\n", a + " " + strings.Repeat("x", api.MaxWord+1) + "\n",
	}
	for _, x := range others {
		if got := store.Links([]byte(x)); len(got) != 0 {
			t.Errorf("%.200q: %x", x, got)
		}
	}
}

// Promise 5.3: documents at each of the limits of a document.
func TestLinksOfLargeDocuments(t *testing.T) {
	var b strings.Builder
	var want []api.Digest
	for i := range api.MaxLines {
		for j := range 3 {
			n := 3*i + j + 1
			fmt.Fprintf(&b, "%s ", digest.Format(some(n)))
			want = append(want, some(n))
		}
		b.WriteString("x\n")
	}
	lines := b.String()
	if got := store.Links([]byte(lines)); !slices.Equal(got, want) {
		t.Errorf("as many lines as there may be: %d links", len(got))
	}
	if got := store.Links([]byte(lines + "x\n")); len(got) != 0 {
		t.Errorf("one line too many: %d links", len(got))
	}
	a := digest.Format(some(1))
	if got := store.Links([]byte(strings.Repeat("x ", api.MaxWords-1) + a + "\n")); !slices.Equal(got, numbered(1)) {
		t.Errorf("as many words as there may be: %x", got)
	}
	if got := store.Links([]byte(strings.Repeat("x", api.MaxWord) + " " + a + "\n")); !slices.Equal(got, numbered(1)) {
		t.Errorf("a word as long as there may be: %x", got)
	}
	long := strings.Repeat(strings.Repeat("x", 1<<15-1)+"\n", 7) + a + "\n"
	rest := api.MaxDocument - len(long)
	full := long + strings.Repeat("y", rest-1) + "\n"
	if got := store.Links([]byte(full)); !slices.Equal(got, numbered(1)) {
		t.Errorf("as many bytes as there may be: %x", got)
	}
	if got := store.Links([]byte(long + strings.Repeat("y", rest) + "\n")); len(got) != 0 {
		t.Errorf("one byte too many: %x", got)
	}
}

// expectClosure checks what can be reached from roots.
func expectClosure(t *testing.T, name string, s []api.Blob, roots, wantPresent, wantMissing []api.Digest) {
	t.Helper()
	present, missing := store.Closure(s, roots)
	if !slices.Equal(present, wantPresent) {
		t.Errorf("%s: present %x, want %x", name, present, wantPresent)
	}
	if !slices.Equal(missing, wantMissing) {
		t.Errorf("%s: missing %x, want %x", name, missing, wantMissing)
	}
}

// refers returns a blob with the Digest of a number that refers to those of others.
func refers(n int, to ...int) api.Blob {
	return api.Blob{Digest: some(n), Data: text(fmt.Sprint(n), numbered(to...)...)}
}

// Promise 5.4: trees of documents with right Digests.
func TestClosure(t *testing.T) {
	leaf, lost, odd := []byte("leaf"), some(5), []byte("no  document "+digest.Format(some(6))+"\n")
	left, right := text("left", append(sums(leaf), lost)...), text("right", sums(odd, leaf)...)
	top := text("top", sums(left, right)...)
	other := text("other", sums(top)...)
	s := holding(leaf, odd, left, right, top, other)
	all := ordered(sums(top, left, right, leaf, odd)...)
	tests := []struct {
		name             string
		s                []api.Blob
		roots            []api.Digest
		present, missing []api.Digest
	}{
		{"nothing", nil, nil, nil, nil},
		{"no roots", s, nil, nil, nil},
		{"a zero root", s, numbered(0), nil, nil},
		{"a leaf", s, sums(leaf), sums(leaf), nil},
		{"no document", s, sums(odd), sums(odd), nil},
		{"a tree", s, sums(top), all, numbered(5)},
		{"a part of it", s, sums(left), ordered(sums(left, leaf)...), numbered(5)},
		{"another part", s, sums(right), ordered(sums(right, leaf, odd)...), nil},
		{"two parts", s, sums(left, right), ordered(sums(left, right, leaf, odd)...), numbered(5)},
		{"all of it", s, sums(other), ordered(append(sums(other), all...)...), numbered(5)},
		{"roots twice, zero and missing", s, append(numbered(0, 7, 0, 5, 7, 6), sums(leaf, top, leaf)...), all, numbered(5, 6, 7)},
		{"roots without blobs", s, numbered(9, 3, 9, 4), nil, numbered(3, 4, 9)},
		{"no store", nil, append(sums(top), some(0), some(2)), nil, ordered(append(sums(top), some(2))...)},
	}
	for _, x := range tests {
		expectClosure(t, x.name, x.s, x.roots, x.present, x.missing)
	}
}

// Promise 5.4: blobs under wrong Digests, and lists that are not valid stores.
func TestClosureOfOtherStores(t *testing.T) {
	huge := refers(1, 2)
	huge.Data = append(huge.Data, bytes.Repeat([]byte("x\n"), api.MaxDocument)...)
	tests := []struct {
		name             string
		s                []api.Blob
		roots            []api.Digest
		present, missing []api.Digest
	}{
		{"itself", []api.Blob{refers(1, 1)}, numbered(1), numbered(1), nil},
		{"a circle", []api.Blob{refers(1, 2), refers(2, 3), refers(3, 1), refers(4, 1)}, numbered(2), numbered(1, 2, 3), nil},
		{"a zero Digest", []api.Blob{refers(0, 2), refers(1, 0), of(2, "")}, numbered(0, 1), numbered(1), nil},
		{"not in order", []api.Blob{of(3, ""), refers(1, 3, 4), of(2, "")}, numbered(1), numbered(1, 3), numbered(4)},
		{"the first blob counts", []api.Blob{refers(2, 3), refers(1, 2), refers(2, 4), of(4, "")}, numbered(1), numbered(1, 2), numbered(3)},
		{"the first blob has no links", []api.Blob{{Digest: some(1)}, refers(1, 2)}, numbered(1), numbered(1), nil},
		{"too much data", []api.Blob{huge, of(2, "")}, numbered(1), numbered(1), nil},
	}
	for _, x := range tests {
		expectClosure(t, x.name, x.s, x.roots, x.present, x.missing)
	}
	line := many(5000, nil)
	for i := range line {
		line[i] = refers(i+1, i+2)
	}
	present, missing := store.Closure(line, numbered(1))
	if len(present) != len(line) || present[0] != some(1) || present[4999] != some(5000) || !slices.Equal(missing, numbered(5001)) {
		t.Errorf("a long line: %d present, missing %x", len(present), missing)
	}
}

// reached describes Closure: it adds what a link leads to, until nothing changes.
func reached(s []api.Blob, roots []api.Digest) (present, missing []api.Digest) {
	set := map[api.Digest]bool{}
	for _, d := range roots {
		set[d] = true
	}
	for size := -1; size != len(set); {
		size = len(set)
		for _, x := range s {
			if !set[x.Digest] || x.Digest == some(0) {
				continue
			}
			for _, word := range strings.Fields(string(x.Data)) {
				if d, ok := digest.Parse(word); ok {
					set[d] = true
				}
			}
		}
	}
	delete(set, some(0))
	for _, d := range slices.SortedFunc(maps.Keys(set), compare) {
		if slices.ContainsFunc(s, func(x api.Blob) bool { return x.Digest == d }) {
			present = append(present, d)
		} else {
			missing = append(missing, d)
		}
	}
	return present, missing
}

// swept describes Sweep for a valid store.
func swept(s []api.Blob, roots []api.Digest) []api.Blob {
	present, _ := reached(s, roots)
	var out []api.Blob
	for _, x := range s {
		if slices.Contains(present, x.Digest) {
			out = append(out, x)
		}
	}
	return out
}

// subset returns the numbers whose bits are set.
func subset(set int) []int {
	var l []int
	for n := range 8 {
		if set>>n&1 == 1 {
			l = append(l, n)
		}
	}
	return l
}

// Promises 5.4 and 5.5: every way in which three blobs refer to each other and to one that is missing.
func TestClosureOfEverySmallStore(t *testing.T) {
	step := 1
	if testing.Short() {
		step = 7
	}
	for links := 0; links < 1<<12; links += step {
		s := []api.Blob{}
		for n := range 3 {
			var to []int
			for _, x := range subset(links >> (4 * n) & 15) {
				to = append(to, x+1)
			}
			s = append(s, refers(n+1, to...))
		}
		for set := range 8 {
			roots := numbered(subset(set << 1)...)
			name := fmt.Sprintf("links %b, roots %b", links, set)
			present, missing := reached(s, roots)
			expectClosure(t, name, s, roots, present, missing)
			got, e := store.Sweep(s, roots)
			expect(t, name, got, e, swept(s, roots), api.OK)
		}
	}
}

// Promise 5.5: Sweep of stores of all sorts, and of lists that are not valid.
func TestSweep(t *testing.T) {
	for _, s := range stores() {
		got, e := store.Sweep(s, nil)
		expect(t, "no roots", got, e, nil, api.OK)
		got, e = store.Sweep(s, numbered(0, 1<<30))
		expect(t, "roots that are not there", got, e, nil, api.OK)
		for i, x := range s[:min(len(s), 3)] {
			if x.Digest == some(0) {
				continue
			}
			got, e = store.Sweep(s, []api.Digest{x.Digest, some(1 << 30)})
			expect(t, "one root of "+brief(s), got, e, s[i:i+1], api.OK)
		}
		var roots []api.Digest
		for _, x := range s {
			roots = append([]api.Digest{x.Digest}, roots...)
		}
		want := s
		if len(s) > 0 && s[0].Digest == some(0) {
			want = s[1:]
		}
		got, e = store.Sweep(s, roots)
		expect(t, "all as roots of "+brief(s), got, e, want, api.OK)
	}
	for name, s := range notStores() {
		for _, roots := range [][]api.Digest{nil, numbered(1), numbered(0, 1, 2, 3, 4)} {
			got, e := store.Sweep(s, roots)
			expect(t, name, got, e, nil, api.ErrInvalid)
		}
	}
}

// Promises 5.4 and 5.5: a full store whose blobs all refer to digests that are missing, and to each other in a line.
func TestSweepOfFullStore(t *testing.T) {
	var contents [][]byte
	var lost []api.Digest
	var last []api.Digest
	for i := range api.MaxBlobs {
		lost = append(lost, some(i+1))
		contents = append(contents, text(fmt.Sprint(i), append(last, some(i+1))...))
		last = sums(contents[i])
	}
	s := holding(contents...)
	for _, n := range []int{1, 2, 100, api.MaxBlobs} {
		name := fmt.Sprintf("%d of a line", n)
		roots := sums(contents[n-1])
		expectClosure(t, name, s, roots, ordered(sums(contents[:n]...)...), lost[:n])
		got, e := store.Sweep(s, roots)
		expect(t, name, got, e, holding(contents[:n]...), api.OK)
		again, e := store.Sweep(got, roots)
		expect(t, name+", twice", again, e, got, api.OK)
	}
}

// world is a store, and what was put into it and must be found in it.
type world struct {
	s    []api.Blob
	held map[api.Digest]string
}

// put puts a document that refers to some of what is held, and to something that is not.
func (w *world) put(t *testing.T, random *rand.Rand) {
	t.Helper()
	links := numbered(1 + random.IntN(3))
	for _, d := range slices.SortedFunc(maps.Keys(w.held), compare) {
		if random.IntN(4) == 0 {
			links = append(links, d)
		}
	}
	data := text(fmt.Sprint(random.IntN(30)), links...)
	next, d, e := store.Put(w.s, data)
	if e != api.OK || d != sha256.Sum256(data) {
		t.Fatalf("Put: %d", e)
	}
	w.s = next
	w.held[d] = string(data)
}

// sweep keeps what can be reached from some of what is held, by the links that were written.
func (w *world) sweep(t *testing.T, random *rand.Rand) {
	t.Helper()
	var roots []api.Digest
	for _, d := range slices.SortedFunc(maps.Keys(w.held), compare) {
		if random.IntN(6) == 0 {
			roots = append(roots, d)
		}
	}
	next, e := store.Sweep(w.s, roots)
	if e != api.OK {
		t.Fatalf("Sweep: %d", e)
	}
	present, _ := reached(w.s, roots)
	for d := range w.held {
		if !slices.Contains(present, d) {
			delete(w.held, d)
		}
	}
	w.s = next
}

// check checks that the store holds what it must, under right Digests, and nothing else.
func (w *world) check(t *testing.T) {
	t.Helper()
	if !store.Valid(w.s) || len(store.Audit(w.s)) != 0 || len(w.s) != len(w.held) {
		t.Fatalf("not a store, or not what was put: %s", brief(w.s))
	}
	for d, want := range w.held {
		if got, ok := store.Get(w.s, d); !ok || string(got) != want {
			t.Fatalf("%x: %q %t", d, got, ok)
		}
	}
}

// Promise 5.7: what was put is found, as long as it can be reached from the roots of each sweep.
func TestWhatWasPutIsFound(t *testing.T) {
	random := rand.New(rand.NewPCG(5, 7))
	for range 60 {
		worlds := []*world{{held: map[api.Digest]string{}}, {held: map[api.Digest]string{}}}
		for range 60 {
			w, other := worlds[random.IntN(2)], worlds[random.IntN(2)]
			switch n := random.IntN(20); {
			case n < 17 && len(w.s) < 100:
				w.put(t, random)
			case n < 19:
				w.sweep(t, random)
			default:
				l, e := store.Merge(w.s, other.s)
				if e != api.OK {
					t.Fatalf("Merge: %d", e)
				}
				w.s = l
				maps.Copy(w.held, other.held)
			}
			w.check(t)
			other.check(t)
		}
	}
}
