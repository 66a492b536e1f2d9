package snapshot_test

import (
	"fmt"
	"maps"
	"math/rand/v2"
	"slices"
	"strings"
	"testing"

	"admission/api"
	"admission/snapshot"
)

// changes returns changes, each of them written as its path, '=', the number of Old, '>' and the number of New.
func changes(words ...string) []api.Change {
	var l []api.Change
	for _, w := range words {
		path, numbers, _ := strings.Cut(w, "=")
		var before, after int
		if _, err := fmt.Sscanf(numbers, "%d>%d", &before, &after); err != nil {
			panic(w)
		}
		l = append(l, api.Change{Path: path, Old: some(before), New: some(after)})
	}
	return l
}

// creation returns the changes that create s.
func creation(s []api.Entry) []api.Change {
	var l []api.Change
	for _, x := range s {
		l = append(l, api.Change{Path: x.Path, New: x.Digest})
	}
	return l
}

// briefly returns a short text of l.
func briefly(l []api.Change) string {
	var b strings.Builder
	fmt.Fprintf(&b, "%d changes:", len(l))
	for _, x := range l[:min(len(l), 8)] {
		fmt.Fprintf(&b, " %.30q=%x>%x", x.Path, x.Old[28:], x.New[28:])
	}
	return b.String()
}

// expectChanges checks the result of a call that may have failed: no changes beside an error.
func expectChanges(t *testing.T, name string, got []api.Change, e api.Errno, want []api.Change, wantErr api.Errno) {
	t.Helper()
	if e != wantErr {
		t.Errorf("%s: error %d, want %d", name, e, wantErr)
	}
	if !slices.Equal(got, want) {
		t.Errorf("%s: %s, want %s", name, briefly(got), briefly(want))
	}
}

// notChanges returns lists of changes that are not valid, with their names.
func notChanges() map[string][]api.Change {
	lists := map[string][]api.Change{
		"nothing at all":         changes("a=0>0"),
		"Old is New":             changes("a=1>1"),
		"Old is New first":       changes("a=1>1", "b=0>1", "c=1>0"),
		"Old is New inside":      changes("a=0>1", "b=2>2", "c=1>0"),
		"Old is New last":        changes("a=0>1", "b=1>0", "c=0>0"),
		"descending":             changes("b=0>1", "a=0>1"),
		"descending at the end":  changes("a=0>1", "b=0>1", "d=0>1", "c=0>1"),
		"slash before dot":       changes("a/b=0>1", "a.b=0>1"),
		"a path twice":           changes("a=0>1", "a=0>1"),
		"a path again":           changes("a=0>1", "a=1>2"),
		"a path again, apart":    changes("a=0>1", "b=0>1", "a=1>2"),
		"one change too many":    creation(many(2*api.MaxEntries + 1)),
		"far too many":           creation(many(10000)),
		"too many, all the same": slices.Repeat(changes("a=0>1"), 2*api.MaxEntries+1),
	}
	for i, path := range noPaths() {
		x := api.Change{Path: path, New: some(1)}
		lists[fmt.Sprintf("no path %d alone", i)] = []api.Change{x}
		around := append(changes("\x01=0>1", "~~=0>1"), x)
		slices.SortFunc(around, func(x, y api.Change) int { return strings.Compare(x.Path, y.Path) })
		lists[fmt.Sprintf("no path %d in order", i)] = around
	}
	return lists
}

// changeLists returns valid lists of changes of all sorts.
func changeLists() [][]api.Change {
	l := [][]api.Change{
		nil, {}, changes("a=0>1"), changes("a=1>0"), changes("a=1>2"), changes("a=0>1", "a.b=1>2", "a/b=2>0", "a0=2>1"), changes("A=1>0", "a=1>0"),
		creation(ofPaths(oddPaths()...)), creation(many(2*api.MaxEntries - 1)), creation(many(2 * api.MaxEntries)),
		{{Path: "x", Old: api.Digest{31: 1}, New: api.Digest{1}}}, {{Path: "x", Old: api.Digest{0, 1}, New: api.Digest{0, 2}}},
	}
	for _, path := range oddPaths() {
		l = append(l, []api.Change{{Path: path, Old: some(1), New: some(2)}})
	}
	return l
}

// Promise 4.3: creations, modifications, deletions, and what stays.
func TestDiff(t *testing.T) {
	full, none := many(api.MaxEntries), []api.Entry(nil)
	shifted := many(2 * api.MaxEntries)[api.MaxEntries:]
	tests := []struct {
		name string
		a, b []api.Entry
		want []api.Change
	}{
		{"nothing", none, none, nil},
		{"equal", files("a=1", "b=2"), files("a=1", "b=2"), nil},
		{"full and equal", full, full, nil},
		{"created", none, files("a=1"), changes("a=0>1")},
		{"deleted", files("a=1"), none, changes("a=1>0")},
		{"modified", files("a=1"), files("a=2"), changes("a=1>2")},
		{"renamed", files("a=1"), files("b=1"), changes("a=1>0", "b=0>1")},
		{"renamed back", files("b=1"), files("a=1"), changes("a=0>1", "b=1>0")},
		{"all of it", files("a=1", "b=2", "d=4"), files("b=3", "c=1", "d=4"), changes("a=1>0", "b=2>3", "c=0>1")},
		{"exchanged", files("a=1", "b=2"), files("a=2", "b=1"), changes("a=1>2", "b=2>1")},
		{"created around", files("b=1"), files("a=1", "b=1", "c=1"), changes("a=0>1", "c=0>1")},
		{"deleted around", files("a=1", "b=1", "c=1"), files("b=1"), changes("a=1>0", "c=1>0")},
		{"order of bytes", files("a.b=1", "a0=1"), files("a/b=1", "aa=1"), changes("a.b=1>0", "a/b=0>1", "a0=1>0", "aa=0>1")},
		{"full created", none, full, creation(full)},
		{"as many changes as there may be", full, shifted, append(deletion(full), creation(shifted)...)},
		{"as many changes, the other way", shifted, full, append(creation(full), deletion(shifted)...)},
	}
	for _, x := range tests {
		got, e := snapshot.Diff(x.a, x.b)
		expectChanges(t, x.name, got, e, x.want, api.OK)
	}
}

// deletion returns the changes that delete s.
func deletion(s []api.Entry) []api.Change {
	var l []api.Change
	for _, x := range s {
		l = append(l, api.Change{Path: x.Path, Old: x.Digest})
	}
	return l
}

// Promises 4.3 and 4.4: what is not a valid snapshot has no changes, on either side.
func TestOtherSnapshots(t *testing.T) {
	for name, s := range notSnapshots() {
		for _, other := range [][]api.Entry{nil, files("a=1"), many(api.MaxEntries), s} {
			l, e := snapshot.Diff(s, other)
			expectChanges(t, name+" on the left", l, e, nil, api.ErrInvalid)
			l, e = snapshot.Diff(other, s)
			expectChanges(t, name+" on the right", l, e, nil, api.ErrInvalid)
		}
		for _, l := range [][]api.Change{nil, changes("a=0>1"), changes("a=3>0"), changes("a=0>0"), creation(many(2 * api.MaxEntries))} {
			got, e := snapshot.Apply(s, l)
			expect(t, name, got, e, nil, api.ErrInvalid)
		}
	}
}

// Promises 4.3 to 4.5: each of the conditions of a valid list of changes, as the calls with such lists report it.
func TestValidChanges(t *testing.T) {
	for _, l := range changeLists() {
		if _, e := snapshot.Invert(l); e != api.OK {
			t.Errorf("Invert of %s: %d", briefly(l), e)
		}
		if got, e := snapshot.Compose(l, nil); e != api.OK || !slices.Equal(got, l) {
			t.Errorf("Compose of %s and nothing: %s %d", briefly(l), briefly(got), e)
		}
		if got, e := snapshot.Compose(nil, l); e != api.OK || !slices.Equal(got, l) {
			t.Errorf("Compose of nothing and %s: %s %d", briefly(l), briefly(got), e)
		}
		if _, e := snapshot.Apply(nil, l); e == api.ErrInvalid {
			t.Errorf("Apply of %s: %d", briefly(l), e)
		}
	}
	for name, l := range notChanges() {
		got, e := snapshot.Invert(l)
		expectChanges(t, "Invert: "+name, got, e, nil, api.ErrInvalid)
		for _, other := range [][]api.Change{nil, changes("a=0>1"), changes("a=1>2"), creation(many(2 * api.MaxEntries)), l} {
			got, e = snapshot.Compose(l, other)
			expectChanges(t, "Compose on the left: "+name, got, e, nil, api.ErrInvalid)
			got, e = snapshot.Compose(other, l)
			expectChanges(t, "Compose on the right: "+name, got, e, nil, api.ErrInvalid)
		}
		for _, s := range [][]api.Entry{nil, files("a=1"), many(api.MaxEntries)} {
			got, e := snapshot.Apply(s, l)
			expect(t, "Apply: "+name, got, e, nil, api.ErrInvalid)
		}
	}
}

// Promise 4.4: changes that create, modify and delete, and those that do not find their Old.
func TestApply(t *testing.T) {
	tests := []struct {
		s    []api.Entry
		l    []api.Change
		want []api.Entry
		e    api.Errno
	}{
		{nil, nil, nil, api.OK},
		{files("a=1", "b=2"), nil, files("a=1", "b=2"), api.OK},
		{nil, changes("a=0>1"), files("a=1"), api.OK},
		{files("a=1"), changes("a=1>0"), nil, api.OK},
		{files("a=1"), changes("a=1>2"), files("a=2"), api.OK},
		{files("b=1"), changes("a=0>2"), files("a=2", "b=1"), api.OK},
		{files("b=1"), changes("c=0>2"), files("b=1", "c=2"), api.OK},
		{files("a=1", "b=2", "c=3"), changes("b=2>0"), files("a=1", "c=3"), api.OK},
		{files("a=1", "c=3"), changes("a=1>0", "b=0>2", "c=3>4"), files("b=2", "c=4"), api.OK},
		{files("a.b=1", "a0=2"), changes("a/b=0>3"), files("a.b=1", "a/b=3", "a0=2"), api.OK},
		{files("a=1"), changes("a=0>2"), nil, api.ErrMismatch},
		{files("a=1"), changes("a=0>1"), nil, api.ErrMismatch},
		{files("a=1"), changes("a=2>1"), nil, api.ErrMismatch},
		{files("a=1"), changes("a=2>0"), nil, api.ErrMismatch},
		{files("a=1"), changes("a=2>3"), nil, api.ErrMismatch},
		{nil, changes("a=1>0"), nil, api.ErrMismatch},
		{nil, changes("a=1>2"), nil, api.ErrMismatch},
		{files("b=1"), changes("a=1>0"), nil, api.ErrMismatch},
		{files("b=1"), changes("c=1>2"), nil, api.ErrMismatch},
		{files("a=1", "b=2"), changes("a=1>3", "b=1>3"), nil, api.ErrMismatch},
		{files("a=1", "b=2"), changes("a=2>3", "b=2>3"), nil, api.ErrMismatch},
		{files("a=1", "b=2"), changes("a=1>3", "b=2>3", "c=1>3"), nil, api.ErrMismatch},
	}
	for _, x := range tests {
		got, e := snapshot.Apply(x.s, x.l)
		expect(t, brief(x.s)+" after "+briefly(x.l), got, e, x.want, x.e)
	}
}

// Promise 4.4, rule R5: results of exactly MaxEntries entries and of more, and mismatches among them.
func TestLimitOfApply(t *testing.T) {
	const most = api.MaxEntries
	full, all := many(most), many(2*most)
	replaced := append(files("a=9"), full[1:]...)
	tests := []struct {
		name string
		s    []api.Entry
		l    []api.Change
		want []api.Entry
		e    api.Errno
	}{
		{"all at once", nil, creation(full), full, api.OK},
		{"one too many at once", nil, creation(many(most + 1)), nil, api.ErrLimit},
		{"the longest list", nil, creation(all), nil, api.ErrLimit},
		{"the last one", full[:most-1], creation(full[most-1:]), full, api.OK},
		{"one more at the end", full, creation(all[most : most+1]), nil, api.ErrLimit},
		{"one more at the start", full, changes("a=0>1"), nil, api.ErrLimit},
		{"one more in the middle", full, changes("f000030x=0>1"), nil, api.ErrLimit},
		{"one for another", full, append(changes("a=0>9"), deletion(full[:1])...), replaced, api.OK},
		{"one more, then a mismatch", full, changes("a=0>1", "g=1>2"), nil, api.ErrMismatch},
		{"a mismatch, then one more", full, changes("a=1>2", "g=0>1"), nil, api.ErrMismatch},
		{"one more, and a file is there", full, changes("a=0>1", "f000063=0>1"), nil, api.ErrMismatch},
		{"all replaced", full, append(deletion(full), creation(all[most:])...), all[most:], api.OK},
		{"all deleted", full, deletion(full), nil, api.OK},
		{"one too many, and not valid", full, changes("a=0>1", "b=0>0"), nil, api.ErrInvalid},
	}
	for _, x := range tests {
		got, e := snapshot.Apply(x.s, x.l)
		expect(t, x.name, got, e, x.want, x.e)
	}
}

// Promise 4.5: changes that meet, differ and cancel each other, and those of one list alone.
func TestCompose(t *testing.T) {
	tests := []struct {
		a, b, want []api.Change
		e          api.Errno
	}{
		{nil, nil, nil, api.OK},
		{changes("a=0>1"), changes("b=0>2"), changes("a=0>1", "b=0>2"), api.OK},
		{changes("b=0>2"), changes("a=1>0"), changes("a=1>0", "b=0>2"), api.OK},
		{changes("a=0>1", "c=1>2", "e=3>0"), changes("b=0>1", "d=1>2", "f=3>0"), changes("a=0>1", "b=0>1", "c=1>2", "d=1>2", "e=3>0", "f=3>0"), api.OK},
		{changes("a=1>2"), changes("a=2>3"), changes("a=1>3"), api.OK},
		{changes("a=0>1"), changes("a=1>2"), changes("a=0>2"), api.OK},
		{changes("a=1>2"), changes("a=2>0"), changes("a=1>0"), api.OK},
		{changes("a=1>0"), changes("a=0>2"), changes("a=1>2"), api.OK},
		{changes("a=1>2"), changes("a=2>1"), nil, api.OK},
		{changes("a=0>1"), changes("a=1>0"), nil, api.OK},
		{changes("a=1>0"), changes("a=0>1"), nil, api.OK},
		{changes("a=1>2", "b=1>2", "c=1>2"), changes("b=2>1"), changes("a=1>2", "c=1>2"), api.OK},
		{changes("b=1>2"), changes("a=1>2", "b=2>1", "c=1>2"), changes("a=1>2", "c=1>2"), api.OK},
		{changes("a=1>2"), changes("a=3>1"), nil, api.ErrMismatch},
		{changes("a=1>2"), changes("a=1>2"), nil, api.ErrMismatch},
		{changes("a=1>2"), changes("a=0>2"), nil, api.ErrMismatch},
		{changes("a=1>0"), changes("a=1>2"), nil, api.ErrMismatch},
		{changes("a=0>1"), changes("a=0>1"), nil, api.ErrMismatch},
		{changes("a=1>2"), changes("a=1>3"), nil, api.ErrMismatch},
		{changes("a=0>1", "c=1>2"), changes("a=1>2", "b=0>1", "c=1>2"), nil, api.ErrMismatch},
		{changes("a=0>1", "c=1>2"), changes("a=0>2", "c=2>3"), nil, api.ErrMismatch},
	}
	for _, x := range tests {
		got, e := snapshot.Compose(x.a, x.b)
		expectChanges(t, briefly(x.a)+" followed by "+briefly(x.b), got, e, x.want, x.e)
	}
}

// Promise 4.5, rule R5: results of exactly 2 * MaxEntries elements and of more, and mismatches among them.
func TestLimitOfCompose(t *testing.T) {
	const most = 2 * api.MaxEntries
	full := creation(many(most))
	undo := deletion(many(most))
	other := creation(ofPaths("g0", "g1", "g2"))
	tests := []struct {
		name string
		a, b []api.Change
		want []api.Change
		e    api.Errno
	}{
		{"both halves", full[:most/2], full[most/2:], full, api.OK},
		{"the first one behind the others", full[1:], full[:1], full, api.OK},
		{"the last one behind the others", full[:most-1], full[most-1:], full, api.OK},
		{"one too many", full, other[:1], nil, api.ErrLimit},
		{"one too many before", other[:1], full, nil, api.ErrLimit},
		{"two full lists", full, creation(ofSuffix("x", most)), nil, api.ErrLimit},
		{"one too many, then a mismatch", full, append(changes("a=0>1"), full[most-1:]...), nil, api.ErrMismatch},
		{"a mismatch, then one too many", full, append(full[:1:1], other...), nil, api.ErrMismatch},
		{"one too many, and not valid", full, changes("a=0>1", "g=0>0"), nil, api.ErrInvalid},
		{"one more, and one is cancelled", full, append(undo[:1:1], other[:1]...), append(full[1:most:most], other[:1]...), api.OK},
		{"two more, and one is cancelled", full, append(undo[:1:1], other[:2]...), nil, api.ErrLimit},
		{"all cancelled", full, undo, nil, api.OK},
		{"all modified", full, modified(full, 1000), creationOf(full, 1000), api.OK},
	}
	for _, x := range tests {
		got, e := snapshot.Compose(x.a, x.b)
		expectChanges(t, x.name, got, e, x.want, x.e)
	}
}

// ofSuffix returns n entries whose paths end with the suffix.
func ofSuffix(suffix string, n int) []api.Entry {
	s := many(n)
	for i := range s {
		s[i].Path += suffix
	}
	return s
}

// modified returns changes that modify what l creates to the Digests of the numbers from first on.
func modified(l []api.Change, first int) []api.Change {
	var out []api.Change
	for i, x := range l {
		out = append(out, api.Change{Path: x.Path, Old: x.New, New: some(first + i)})
	}
	return out
}

// creationOf returns changes that create the paths of l with the Digests of the numbers from first on.
func creationOf(l []api.Change, first int) []api.Change {
	var out []api.Change
	for i, x := range l {
		out = append(out, api.Change{Path: x.Path, New: some(first + i)})
	}
	return out
}

// Promise 4.5: Invert exchanges Old and New of each change.
func TestInvert(t *testing.T) {
	for _, l := range changeLists() {
		var want []api.Change
		for _, x := range l {
			want = append(want, api.Change{Path: x.Path, Old: x.New, New: x.Old})
		}
		got, e := snapshot.Invert(l)
		expectChanges(t, briefly(l), got, e, want, api.OK)
		got, e = snapshot.Invert(got)
		expectChanges(t, "twice "+briefly(l), got, e, l, api.OK)
	}
}

// smallPaths are the paths of the small snapshots and lists of changes.
func smallPaths() []string { return []string{"a", "a.b", "a/b"} }

// smallSnapshots returns every snapshot of the first n small paths and of two Digests.
func smallSnapshots(n int) [][]api.Entry {
	all := [][]api.Entry{nil}
	for _, path := range smallPaths()[:n] {
		var next [][]api.Entry
		for _, s := range all {
			next = append(next, s)
			for d := 1; d <= 2; d++ {
				next = append(next, append(slices.Clone(s), api.Entry{Path: path, Digest: some(d)}))
			}
		}
		all = next
	}
	return all
}

// smallChanges returns every list of changes of the first n small paths and of two Digests and none.
func smallChanges(n int) [][]api.Change {
	all := [][]api.Change{nil}
	for _, path := range smallPaths()[:n] {
		var next [][]api.Change
		for _, l := range all {
			next = append(next, l)
			for pair := range 9 {
				if before, after := pair/3, pair%3; before != after {
					next = append(next, append(slices.Clone(l), api.Change{Path: path, Old: some(before), New: some(after)}))
				}
			}
		}
		all = next
	}
	return all
}

// table returns the Digests of s by their paths.
func table(s []api.Entry) map[string]api.Digest {
	m := map[string]api.Digest{}
	for _, x := range s {
		m[x.Path] = x.Digest
	}
	return m
}

// entriesOf returns the snapshot with the Digests of m, apart from zero ones.
func entriesOf(m map[string]api.Digest) []api.Entry {
	var s []api.Entry
	for _, path := range slices.Sorted(maps.Keys(m)) {
		if m[path] != (api.Digest{}) {
			s = append(s, api.Entry{Path: path, Digest: m[path]})
		}
	}
	return s
}

// applied describes Apply with a map.
func applied(s []api.Entry, l []api.Change) ([]api.Entry, api.Errno) {
	m := table(s)
	for _, x := range l {
		if m[x.Path] != x.Old {
			return nil, api.ErrMismatch
		}
	}
	for _, x := range l {
		m[x.Path] = x.New
	}
	out := entriesOf(m)
	if len(out) > api.MaxEntries {
		return nil, api.ErrLimit
	}
	return out, api.OK
}

// different describes Diff with maps.
func different(a, b []api.Entry) []api.Change {
	before, after := table(a), table(b)
	both := maps.Clone(before)
	maps.Copy(both, after)
	var l []api.Change
	for _, path := range slices.Sorted(maps.Keys(both)) {
		if before[path] != after[path] {
			l = append(l, api.Change{Path: path, Old: before[path], New: after[path]})
		}
	}
	return l
}

// Promises 4.3, 4.4 and 4.9: every pair of small snapshots, against a description with maps.
func TestEverySmallPair(t *testing.T) {
	all := smallSnapshots(3)
	for _, a := range all {
		for _, b := range all {
			l, e := snapshot.Diff(a, b)
			expectChanges(t, brief(a)+" to "+brief(b), l, e, different(a, b), api.OK)
			got, e := snapshot.Apply(a, l)
			expect(t, brief(a)+" after "+briefly(l), got, e, b, api.OK)
			back, e := snapshot.Invert(l)
			expectChanges(t, "Invert of "+briefly(l), back, e, different(b, a), api.OK)
			got, e = snapshot.Apply(b, back)
			expect(t, brief(b)+" after "+briefly(back), got, e, a, api.OK)
		}
	}
}

// Promise 4.4: every small list of changes with every small snapshot, against a description with maps.
func TestApplyOfEverySmallList(t *testing.T) {
	for _, s := range smallSnapshots(3) {
		for _, l := range smallChanges(3) {
			want, wantErr := applied(s, l)
			got, e := snapshot.Apply(s, l)
			expect(t, brief(s)+" after "+briefly(l), got, e, want, wantErr)
		}
	}
}

// composed describes Compose path by path, without its limit.
func composed(a, b []api.Change) ([]api.Change, api.Errno) {
	joined := map[string]api.Change{}
	for _, x := range b {
		joined[x.Path] = x
	}
	for _, x := range a {
		y, ok := joined[x.Path]
		switch {
		case !ok:
			joined[x.Path] = x
		case x.New != y.Old:
			return nil, api.ErrMismatch
		case x.Old == y.New:
			delete(joined, x.Path)
		default:
			joined[x.Path] = api.Change{Path: x.Path, Old: x.Old, New: y.New}
		}
	}
	var l []api.Change
	for _, path := range slices.Sorted(maps.Keys(joined)) {
		l = append(l, joined[path])
	}
	return l, api.OK
}

// Promise 4.5: every pair of small lists of changes, against a description with maps.
func TestComposeOfEverySmallPair(t *testing.T) {
	all := smallChanges(3)
	met := 0
	for _, a := range all {
		for _, b := range all {
			want, wantErr := composed(a, b)
			got, e := snapshot.Compose(a, b)
			if e != wantErr || !slices.Equal(got, want) {
				t.Errorf("%s followed by %s: %s %d, want %s %d", briefly(a), briefly(b), briefly(got), e, briefly(want), wantErr)
			}
			if e == api.OK {
				met++
			}
		}
	}
	if met < 1000 {
		t.Errorf("only %d pairs met", met)
	}
}

// Promise 4.9: a list of changes followed by another one has the effect of both, wherever both apply.
func TestComposeIsBothInTurn(t *testing.T) {
	all, snapshots := smallChanges(2), smallSnapshots(2)
	for _, a := range all {
		for _, b := range all {
			l, e := snapshot.Compose(a, b)
			if e != api.OK {
				continue
			}
			for _, s := range snapshots {
				half, e := snapshot.Apply(s, a)
				if e != api.OK {
					continue
				}
				want, e := snapshot.Apply(half, b)
				if e != api.OK {
					continue
				}
				got, e := snapshot.Apply(s, l)
				expect(t, brief(s)+" after "+briefly(l), got, e, want, api.OK)
			}
		}
	}
}

// randomSnapshot returns a snapshot of at most n of the paths.
func randomSnapshot(random *rand.Rand, paths []string, n int) []api.Entry {
	m := map[string]api.Digest{}
	for range random.IntN(n + 1) {
		m[paths[random.IntN(len(paths))]] = some(1 + random.IntN(3))
	}
	return entriesOf(m)
}

// Promise 4.9: the changes between several snapshots compose like functions, and Invert undoes them.
func TestChangesBetweenSeveralSnapshots(t *testing.T) {
	random := rand.New(rand.NewPCG(4, 9))
	var wide []string
	for _, x := range many(3 * api.MaxEntries) {
		wide = append(wide, x.Path)
	}
	for round := range 2000 {
		paths, most := oddPaths(), 20
		if round%2 == 1 {
			paths, most = wide, api.MaxEntries
		}
		var states [4][]api.Entry
		for i := range states {
			states[i] = randomSnapshot(random, paths, most)
		}
		checkStates(t, states[:])
	}
}

// checkStates checks the changes between the snapshots, in order, against the snapshots.
func checkStates(t *testing.T, states [][]api.Entry) {
	t.Helper()
	first := states[0]
	var left []api.Change
	for i := 1; i < len(states); i++ {
		before, after := states[i-1], states[i]
		l, e := snapshot.Diff(before, after)
		expectChanges(t, "Diff", l, e, different(before, after), api.OK)
		got, e := snapshot.Apply(before, l)
		expect(t, "Apply of Diff", got, e, after, api.OK)
		left, e = snapshot.Compose(left, l)
		expectChanges(t, "Compose from the left", left, e, different(first, after), api.OK)
		got, e = snapshot.Apply(first, left)
		expect(t, "Apply of Compose", got, e, after, api.OK)
		undo, e := snapshot.Invert(left)
		expectChanges(t, "Invert of Compose", undo, e, different(after, first), api.OK)
		none, e := snapshot.Compose(left, undo)
		expectChanges(t, "Compose with the inverse", none, e, nil, api.OK)
		none, e = snapshot.Compose(undo, left)
		expectChanges(t, "Compose of the inverse", none, e, nil, api.OK)
	}
	last := states[len(states)-1]
	var right []api.Change
	for i := len(states) - 1; i > 0; i-- {
		l, _ := snapshot.Diff(states[i-1], states[i])
		var e api.Errno
		right, e = snapshot.Compose(l, right)
		expectChanges(t, "Compose from the right", right, e, different(states[i-1], last), api.OK)
	}
	if !slices.Equal(left, right) {
		t.Errorf("%s and %s", briefly(left), briefly(right))
	}
}
