package snapshot_test

import (
	"fmt"
	"math/rand/v2"
	"slices"
	"strconv"
	"strings"
	"sync"
	"testing"

	"admission/api"
	"admission/pattern"
	"admission/snapshot"
)

// some returns a Digest for each number, the zero Digest for 0.
func some(n int) api.Digest {
	var d api.Digest
	for i := range 8 {
		d[31-i] = byte(n >> (8 * i))
	}
	return d
}

// files returns entries, each of them written as its path, '=' and the number of its Digest.
func files(words ...string) []api.Entry {
	var s []api.Entry
	for _, w := range words {
		path, number, _ := strings.Cut(w, "=")
		n, err := strconv.Atoi(number)
		if err != nil {
			panic(w)
		}
		s = append(s, api.Entry{Path: path, Digest: some(n)})
	}
	return s
}

// many returns n entries in ascending order.
func many(n int) []api.Entry {
	var s []api.Entry
	for i := range n {
		s = append(s, api.Entry{Path: fmt.Sprintf("f%06d", i), Digest: some(i + 1)})
	}
	return s
}

// long returns n letters.
func long(n int) string { return strings.Repeat("a", n) }

// noPaths returns texts of all sorts that are no paths.
func noPaths() []string {
	return []string{
		"", "/", "a/", "/a", "a//b", ".", "..", "./a", "a/.", "a/../b", "a/..", "\x00", "a\x00b",
		long(api.MaxPath + 1), long(api.MaxPath-1) + "/b", long(api.MaxPath-1) + "\x00", long(1 << 20),
	}
}

// oddPaths returns paths of all sorts in ascending order.
func oddPaths() []string {
	l := []string{
		"\x01", " ", "\n", "%", "*", "**/?", "...", "-", "A", "\\", "a", "a ", "a!", "a-b", "a.b", "a/b", "a/b/c", "a/b.c", "a0", "aa", "b", "~", "\x7f", "\x80", "ä", "\xff", "\xff/\xff",
		long(api.MaxPath), long(api.MaxPath-2) + "/b", strings.Repeat("z/", api.MaxPath/2-1) + "zz",
	}
	slices.Sort(l)
	return l
}

// ofPaths returns an entry for each of the paths.
func ofPaths(paths ...string) []api.Entry {
	var s []api.Entry
	for i, path := range paths {
		s = append(s, api.Entry{Path: path, Digest: some(i + 1)})
	}
	return s
}

// brief returns a short text of s.
func brief(s []api.Entry) string {
	var b strings.Builder
	fmt.Fprintf(&b, "%d entries:", len(s))
	for _, x := range s[:min(len(s), 8)] {
		fmt.Fprintf(&b, " %.30q=%x", x.Path, x.Digest[28:])
	}
	return b.String()
}

// expect checks the result of a call that may have failed: no entries beside an error.
func expect(t *testing.T, name string, got []api.Entry, e api.Errno, want []api.Entry, wantErr api.Errno) {
	t.Helper()
	if e != wantErr {
		t.Errorf("%s: error %d, want %d", name, e, wantErr)
	}
	if !slices.Equal(got, want) {
		t.Errorf("%s: %s, want %s", name, brief(got), brief(want))
	}
}

// notSnapshots returns lists that are not valid snapshots, with their names.
func notSnapshots() map[string][]api.Entry {
	lists := map[string][]api.Entry{
		"descending":              files("b=1", "a=1"),
		"descending at the end":   files("a=1", "b=2", "d=3", "c=4"),
		"descending at the start": files("b=1", "a=2", "c=3", "d=4"),
		"deeper first":            files("a/b=1", "a=2"),
		"slash before dot":        files("a/b=1", "a.b=2"),
		"lower case first":        files("a=1", "B=2"),
		"bytes are unsigned":      files("\xff=1", "a=2"),
		"a path twice":            files("a=1", "a=1"),
		"a path twice, changed":   files("a=1", "a=2"),
		"a path twice at the end": files("a=1", "b=2", "b=3"),
		"a path twice, apart":     files("a=1", "b=2", "a=1"),
		"a zero Digest":           files("a=0"),
		"a zero Digest first":     files("a=0", "b=1", "c=2"),
		"a zero Digest inside":    files("a=1", "b=0", "c=2"),
		"a zero Digest last":      files("a=1", "b=2", "c=0"),
		"one entry too many":      many(api.MaxEntries + 1),
		"far too many":            many(10000),
		"too many, all the same":  slices.Repeat(files("a=1"), api.MaxEntries+1),
	}
	for i, path := range noPaths() {
		entry := api.Entry{Path: path, Digest: some(1)}
		lists[fmt.Sprintf("no path %d alone", i)] = []api.Entry{entry}
		around := append(files("\x01=1", "~~=2"), entry)
		slices.SortFunc(around, func(x, y api.Entry) int { return strings.Compare(x.Path, y.Path) })
		lists[fmt.Sprintf("no path %d in order", i)] = around
	}
	return lists
}

// snapshots returns valid snapshots of all sorts.
func snapshots() [][]api.Entry {
	l := [][]api.Entry{
		nil, {}, files("a=1"), files("a=1", "a.b=1", "a/b=1", "a0=1"), files("A=1", "B=2", "a=3"), files("a=1", "b=1"),
		files("src/a.c=1", "src/b.h=2", "src/x/c.c=3"), ofPaths(oddPaths()...), many(api.MaxEntries - 1), many(api.MaxEntries),
		{{Path: "x", Digest: api.Digest{31: 1}}}, {{Path: "x", Digest: api.Digest{1}}}, {{Path: "x", Digest: api.Digest{16: 0x80}}},
	}
	for _, path := range oddPaths() {
		l = append(l, ofPaths(path))
	}
	return l
}

// Promise 4.1: each of the conditions of a valid snapshot.
func TestValid(t *testing.T) {
	for _, s := range snapshots() {
		if !snapshot.Valid(s) {
			t.Errorf("not valid: %s", brief(s))
		}
	}
	for name, s := range notSnapshots() {
		if snapshot.Valid(s) {
			t.Errorf("valid: %s", name)
		}
	}
}

// Promise 4.1: every pair of paths is in order in one way at most.
func TestOrderOfPaths(t *testing.T) {
	paths := oddPaths()
	for i, x := range paths {
		for j, y := range paths {
			if got := snapshot.Valid(ofPaths(x, y)); got != (i < j) {
				t.Errorf("%q before %q: %t", x, y, got)
			}
		}
	}
}

// Promise 4.1: Make puts the entries in order, also if they are in order.
func TestMake(t *testing.T) {
	random := rand.New(rand.NewPCG(4, 1))
	for _, s := range snapshots() {
		l := slices.Clone(s)
		for range 20 {
			got, e := snapshot.Make(l)
			expect(t, "Make of "+brief(l), got, e, s, api.OK)
			random.Shuffle(len(l), func(i, j int) { l[i], l[j] = l[j], l[i] })
		}
		slices.Reverse(l)
		got, e := snapshot.Make(l)
		expect(t, "Make of "+brief(l), got, e, s, api.OK)
	}
}

// Promise 4.1, rule R5: the errors of Make, and which of them is first.
func TestErrorsOfMake(t *testing.T) {
	full := many(api.MaxEntries)
	tests := []struct {
		name string
		l    []api.Entry
		e    api.Errno
	}{
		{"one entry too many", many(api.MaxEntries + 1), api.ErrLimit},
		{"one entry too many, and no path", append(full[:api.MaxEntries:api.MaxEntries], files("/=1")...), api.ErrLimit},
		{"one entry too many, and a zero Digest", append(files("a=0"), full...), api.ErrLimit},
		{"one entry too many, and a path twice", append(files("f000003=1"), full...), api.ErrLimit},
		{"all the same, one too many", slices.Repeat(files("a=1"), api.MaxEntries+1), api.ErrLimit},
		{"all the same", slices.Repeat(files("a=1"), api.MaxEntries), api.ErrDuplicate},
		{"a zero Digest", files("a=0"), api.ErrInvalid},
		{"a zero Digest at the end", files("b=1", "a=2", "c=0"), api.ErrInvalid},
		{"a path twice, then a zero Digest", files("a=1", "a=1", "b=0"), api.ErrInvalid},
		{"a zero Digest, then a path twice", files("b=0", "a=1", "a=1"), api.ErrInvalid},
		{"a path twice, once with a zero Digest", files("a=1", "a=0"), api.ErrInvalid},
		{"a path twice, then no path", files("a=1", "a=1", "/=2"), api.ErrInvalid},
		{"no path twice", files("/=1", "/=1"), api.ErrInvalid},
		{"a path twice", files("a=1", "a=1"), api.ErrDuplicate},
		{"a path twice, changed", files("a=2", "a=1"), api.ErrDuplicate},
		{"a path twice, apart", files("b=1", "c=2", "a=3", "b=4"), api.ErrDuplicate},
		{"the last path twice", files("c=1", "a=2", "c=3"), api.ErrDuplicate},
		{"as many as there may be, a path twice", append(full[:api.MaxEntries-1:api.MaxEntries-1], full[0]), api.ErrDuplicate},
		{"as many as there may be, no path", append(full[:api.MaxEntries-1:api.MaxEntries-1], files("..=1")...), api.ErrInvalid},
	}
	for _, x := range tests {
		got, e := snapshot.Make(x.l)
		expect(t, x.name, got, e, nil, x.e)
	}
	for _, path := range noPaths() {
		for _, l := range [][]api.Entry{ofPaths(path), ofPaths("b", path, "a"), ofPaths("a", "a", path)} {
			got, e := snapshot.Make(l)
			expect(t, brief(l), got, e, nil, api.ErrInvalid)
		}
	}
}

// Promise 4.2: Lookup of paths that are there, of others, and in lists that are not valid.
func TestLookup(t *testing.T) {
	tests := []struct {
		s    []api.Entry
		path string
		want int
		ok   bool
	}{
		{nil, "a", 0, false},
		{nil, "", 0, false},
		{files("a=1", "b=2", "c=3"), "a", 1, true},
		{files("a=1", "b=2", "c=3"), "b", 2, true},
		{files("a=1", "b=2", "c=3"), "c", 3, true},
		{files("a=1", "c=3"), "b", 0, false},
		{files("a=1", "c=3"), "d", 0, false},
		{files("a=1", "c=3"), "A", 0, false},
		{files("a=1", "c=3"), "", 0, false},
		{files("a=1", "c=3"), "a/", 0, false},
		{files("ab=1"), "a", 0, false},
		{files("a=1"), "ab", 0, false},
		{files("a/b=1"), "a", 0, false},
		{files("b=1", "a=2", "a=3"), "a", 2, true},
		{files("a=3", "b=1", "a=2"), "a", 3, true},
		{files("c=1", "b=2", "a=3"), "a", 3, true},
		{files("c=1", "b=2", "a=3"), "c", 1, true},
		{files("a=0"), "a", 0, true},
		{files("a=0", "a=1"), "a", 0, true},
		{files("a=1", "a=0"), "a", 1, true},
		{files("/=1"), "/", 1, true},
		{files("=1"), "", 1, true},
		{files("a\x00=1"), "a\x00", 1, true},
		{files("a\x00=1"), "a", 0, false},
		{many(10000), "f009999", 10000, true},
		{many(10000), "f010000", 0, false},
	}
	for _, x := range tests {
		if d, ok := snapshot.Lookup(x.s, x.path); d != some(x.want) || ok != x.ok {
			t.Errorf("Lookup of %q in %s: %x %t", x.path, brief(x.s), d, ok)
		}
	}
}

// Promise 4.6: Select keeps the entries that a pattern matches, in the order of the list, which need not be a snapshot.
func TestSelect(t *testing.T) {
	s := files("README=1", "src/a.c=2", "src/b.h=3", "src/x/c.c=4")
	odd := files("b=1", "a=2", "a=3", "/=4", "=5", "c=0", "b=6")
	tests := []struct {
		s    []api.Entry
		p    string
		want []api.Entry
	}{
		{nil, "**", nil},
		{s, "**", s},
		{s, "*", files("README=1")},
		{s, "src/*", files("src/a.c=2", "src/b.h=3")},
		{s, "src/*.c", files("src/a.c=2")},
		{s, "src/**.c", files("src/a.c=2", "src/x/c.c=4")},
		{s, "src/b.h", files("src/b.h=3")},
		{s, "src/?.?", files("src/a.c=2", "src/b.h=3")},
		{s, "src", nil},
		{s, "missing", nil},
		{s, "", nil},
		{s, "\\", nil},
		{s, "**\\", nil},
		{s, "**\x00", nil},
		{s, strings.Repeat("*", api.MaxPattern), s},
		{s, strings.Repeat("*", api.MaxPattern+1), nil},
		{odd, "**", files("b=1", "a=2", "a=3", "c=0", "b=6")},
		{odd, "b", files("b=1", "b=6")},
		{odd, "/", nil},
		{odd, "c", files("c=0")},
		{ofPaths(oddPaths()...), "**", ofPaths(oddPaths()...)},
		{many(3000), "f002[0-9]", nil},
		{many(3000), "f00299*", many(3000)[2990:]},
	}
	for _, x := range tests {
		if got := snapshot.Select(x.s, x.p); !slices.Equal(got, x.want) {
			t.Errorf("Select of %.30q from %s: %s", x.p, brief(x.s), brief(got))
		}
	}
}

// Promise 4.6: Move from and to the directory "" and others.
func TestMove(t *testing.T) {
	s := files("README=1", "src=2", "src-x=3", "src/a.c=4", "src/b/c=5", "src/src/a.c=6", "srcs/a=7")
	tests := []struct {
		from, to string
		want     []api.Entry
	}{
		{"", "", s},
		{"", "x", files("x/README=1", "x/src=2", "x/src-x=3", "x/src/a.c=4", "x/src/b/c=5", "x/src/src/a.c=6", "x/srcs/a=7")},
		{"", "src", files("src/README=1", "src/src=2", "src/src-x=3", "src/src/a.c=4", "src/src/b/c=5", "src/src/src/a.c=6", "src/srcs/a=7")},
		{"src", "", files("a.c=4", "b/c=5", "src/a.c=6")},
		{"src", "src", files("src/a.c=4", "src/b/c=5", "src/src/a.c=6")},
		{"src", "out/y", files("out/y/a.c=4", "out/y/b/c=5", "out/y/src/a.c=6")},
		{"src/src", "a", files("a/a.c=6")},
		{"src", "src/src", files("src/src/a.c=4", "src/src/b/c=5", "src/src/src/a.c=6")},
		{"src/b", "", files("c=5")},
		{"src/b/c", "", nil},
		{"README", "x", nil},
		{"missing", "x", nil},
		{"sr", "x", nil},
		{"s*", "x", nil},
	}
	for _, x := range tests {
		got, e := snapshot.Move(s, x.from, x.to)
		expect(t, fmt.Sprintf("from %q to %q", x.from, x.to), got, e, x.want, api.OK)
		if got, e := snapshot.Move(nil, x.from, x.to); e != api.OK || len(got) != 0 {
			t.Errorf("nothing from %q to %q: %s %d", x.from, x.to, brief(got), e)
		}
	}
}

// Promise 4.6: Move leaves out what would be longer than a path.
func TestMoveOfLongPaths(t *testing.T) {
	s := files("a/b=1", "a/"+long(api.MaxPath-5)+"=2", "a/"+long(api.MaxPath-4)+"=3", "a/"+long(api.MaxPath-3)+"=4", "a/"+long(api.MaxPath-2)+"=5", "a/c=6")
	slices.SortFunc(s, func(x, y api.Entry) int { return strings.Compare(x.Path, y.Path) })
	for n := 1; n <= api.MaxPath; n++ {
		to := strings.Repeat("x", n)
		var want []api.Entry
		for _, x := range s {
			if path := to + x.Path[1:]; len(path) <= api.MaxPath {
				want = append(want, api.Entry{Path: path, Digest: x.Digest})
			}
		}
		got, e := snapshot.Move(s, "a", to)
		expect(t, fmt.Sprintf("to a directory of %d bytes", n), got, e, want, api.OK)
	}
	got, e := snapshot.Move(s, "a", strings.Repeat("x", api.MaxPath))
	expect(t, "to the longest directory", got, e, nil, api.OK)
	got, e = snapshot.Move(s, "a", strings.Repeat("x", api.MaxPath-2))
	expect(t, "to the longest directory that holds something", got, e, ofMoved(s, "a/", strings.Repeat("x", api.MaxPath-2)+"/", "a/b", "a/c"), api.OK)
}

// ofMoved returns the entries of s with these paths, which begin with from, with to in its place.
func ofMoved(s []api.Entry, from, to string, paths ...string) []api.Entry {
	var out []api.Entry
	for _, x := range s {
		if slices.Contains(paths, x.Path) {
			out = append(out, api.Entry{Path: to + strings.TrimPrefix(x.Path, from), Digest: x.Digest})
		}
	}
	return out
}

// Promise 4.6: Move is Relocate for each entry and then the ascending order, for all directories and sets of paths that mix what sorts below and above '/'.
func TestMoveOfAllSorts(t *testing.T) {
	dirs := []string{"", "a", "b", "a/a", "a/b", "a.", "a-", "a0", "b/a/b", "~", "\x01", "\xff"}
	var paths []string
	for _, dir := range dirs[1:] {
		paths = append(paths, dir, dir+"/a", dir+"/a/b", dir+"/a.b", dir+"/a0", dir+"/~")
	}
	slices.Sort(paths)
	paths = slices.Compact(paths)
	random := rand.New(rand.NewPCG(4, 6))
	moved := 0
	for range 500 {
		var s []api.Entry
		for i, path := range paths {
			if random.IntN(len(paths)) < api.MaxEntries/2 && len(s) < api.MaxEntries {
				s = append(s, api.Entry{Path: path, Digest: some(i + 1)})
			}
		}
		for _, from := range dirs {
			for _, to := range dirs {
				var want []api.Entry
				for _, x := range s {
					if path, ok := pattern.Relocate(from, to, x.Path); ok {
						want = append(want, api.Entry{Path: path, Digest: x.Digest})
					}
				}
				slices.SortFunc(want, func(x, y api.Entry) int { return strings.Compare(x.Path, y.Path) })
				got, e := snapshot.Move(s, from, to)
				expect(t, fmt.Sprintf("from %q to %q", from, to), got, e, want, api.OK)
				if !snapshot.Valid(got) {
					t.Errorf("from %q to %q: not valid", from, to)
				}
				moved += len(got)
			}
		}
	}
	if moved < 100000 {
		t.Errorf("only %d entries were moved", moved)
	}
}

// Promise 4.6: what is no snapshot or no directory.
func TestErrorsOfMove(t *testing.T) {
	for name, s := range notSnapshots() {
		for _, dirs := range [][2]string{{"", ""}, {"a", "b"}, {"missing", "x"}, {"/", "/"}} {
			got, e := snapshot.Move(s, dirs[0], dirs[1])
			expect(t, name, got, e, nil, api.ErrInvalid)
		}
	}
	for _, dir := range noPaths() {
		if dir == "" {
			continue
		}
		for _, s := range [][]api.Entry{nil, files("a=1", "a/b=2")} {
			for _, dirs := range [][2]string{{"", dir}, {dir, ""}, {"a", dir}, {dir, "a"}, {"missing", dir}, {dir, dir}} {
				got, e := snapshot.Move(s, dirs[0], dirs[1])
				expect(t, fmt.Sprintf("from %.30q to %.30q", dirs[0], dirs[1]), got, e, nil, api.ErrInvalid)
			}
		}
	}
}

// roomy returns a copy of l with memory after its elements, and a function that checks that neither has changed.
func roomy[T comparable](t *testing.T, l []T, filler T) ([]T, func()) {
	memory := append(slices.Clone(l), slices.Repeat([]T{filler}, len(l)+8)...)
	old := slices.Clone(memory)
	return memory[:len(l)], func() {
		t.Helper()
		if !slices.Equal(memory, old) {
			t.Error("an argument was modified")
		}
	}
}

// Rule R4: neither the arguments nor the memory after them are modified.
func TestArgumentsStay(t *testing.T) {
	a, checkA := roomy(t, files("b=1", "d=2", "x/y=3"), api.Entry{Path: "filler"})
	b, checkB := roomy(t, files("a=1", "b=7", "x/y=3", "z=9"), api.Entry{Path: "filler"})
	unordered, checkUnordered := roomy(t, files("z=1", "c=3", "a=2"), api.Entry{Path: "filler"})
	changes, e := snapshot.Diff(a, b)
	if e != api.OK {
		t.Fatal(e)
	}
	l, checkL := roomy(t, changes, api.Change{Path: "filler"})
	inverse, e := snapshot.Invert(l)
	if e != api.OK {
		t.Fatal(e)
	}
	snapshot.Valid(a)
	snapshot.Make(unordered)
	snapshot.Lookup(a, "d")
	snapshot.Apply(a, l)
	snapshot.Compose(l, inverse)
	snapshot.Select(a, "**")
	snapshot.Move(a, "x", "w")
	lines := snapshot.Lines("file", a)
	old := make([][]string, len(lines))
	for i := range lines {
		old[i] = slices.Clone(lines[i])
	}
	snapshot.Read("file", lines)
	snapshot.Revision(a)
	checkA()
	checkB()
	checkUnordered()
	checkL()
	if !slices.EqualFunc(lines, old, slices.Equal[[]string]) {
		t.Error("lines were modified")
	}
}

// Rules of the language, 7: results are new memory.
func TestResultsAreNewMemory(t *testing.T) {
	s := files("a=1", "b=2", "c=3")
	want := slices.Clone(s)
	var results [][]api.Entry
	for range 2 {
		made, _ := snapshot.Make(s)
		applied, _ := snapshot.Apply(s, nil)
		moved, _ := snapshot.Move(s, "", "")
		results = append(results, made, applied, moved, snapshot.Select(s, "**"))
	}
	for i, got := range results {
		if !slices.Equal(got, want) {
			t.Errorf("result %d: %s", i, brief(got))
		}
		clear(got)
	}
	if !slices.Equal(s, want) {
		t.Error("a result shares memory with an argument")
	}
	l := creation(s)
	wantL := slices.Clone(l)
	first, _ := snapshot.Compose(l, nil)
	second, _ := snapshot.Compose(nil, l)
	for i, got := range [][]api.Change{first, second} {
		if !slices.Equal(got, wantL) {
			t.Errorf("changes %d", i)
		}
		clear(got)
	}
	if !slices.Equal(l, wantL) {
		t.Error("a result shares memory with a list of changes")
	}
}

// Rule R3: calls at the same time have the same results.
func TestCallsAreIndependent(t *testing.T) {
	var group sync.WaitGroup
	a, b := files("a=1", "b=2", "c=3"), files("a=1", "b=4", "d=5")
	for range 8 {
		group.Go(func() {
			for range 300 {
				l, _ := snapshot.Diff(a, b)
				if got, e := snapshot.Apply(a, l); e != api.OK || !slices.Equal(got, b) {
					t.Errorf("%s %d", brief(got), e)
				}
				if got, e := snapshot.Read("x", snapshot.Lines("x", a)); e != api.OK || !slices.Equal(got, a) {
					t.Errorf("%s %d", brief(got), e)
				}
			}
		})
	}
	group.Wait()
}
