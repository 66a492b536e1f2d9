package ranges_test

import (
	"fmt"
	"math/rand/v2"
	"slices"
	"testing"

	"admission/api"
	"admission/ranges"
)

// ladder describes a scheme apart from packages version and ranges: steps are versions in ascending order, each in several spellings, and gaps[k] are versions between step k-1 and step k.
type ladder struct {
	scheme      int
	steps, gaps [][]string
}

// ladders returns one short ladder of each scheme.
func ladders() []ladder {
	return []ladder{
		{
			api.Semver,
			[][]string{{"1.0.0", "1.0.0+b", "1.0.0+a"}, {"2.0.0-rc.1+0", "2.0.0-rc.1", "2.0.0-rc.1+x"}, {"2.0.0+z", "2.0.0+1", "2.0.0"}},
			[][]string{{"0.0.0-0", "0.9.9", "1.0.0-rc.1+b"}, {"1.0.1-0", "1.0.1", "2.0.0-rc.0"}, {"2.0.0-rc.2", "2.0.0-rc.1.0"}, {"2.0.1-0", "10.0.0"}},
		},
		{
			api.Debian,
			[][]string{{"1.0", "1.", "0:1.00", "1.0-0"}, {"1.0-1", "1.0-01", "00:1.0-1"}, {"1:0", "01:0", "1:0-0"}},
			[][]string{{"0~", "1.0~rc1", "1"}, {"1.0-0a", "1.0-0.1"}, {"1.0-1.1", "1.0-2", "9"}, {"1:0.1", "2:0~"}},
		},
		{
			api.Dotted,
			[][]string{{"1", "1.0", "01"}, {"2.0", "2", "02"}, {"10.0", "10", "010.0.0"}},
			[][]string{{"0", "0.9"}, {"1.0.1", "1.5"}, {"2.1", "9", "3.0"}, {"10.0.1", "11"}},
		},
	}
}

// longLadder returns a ladder of n steps of the scheme Dotted.
func longLadder(n int) ladder {
	l := ladder{scheme: api.Dotted, gaps: [][]string{{"0"}}}
	for k := range n {
		l.steps = append(l.steps, []string{fmt.Sprintf("%d.0", k+1), fmt.Sprint(k + 1), fmt.Sprintf("0%d", k+1)})
		l.gaps = append(l.gaps, []string{fmt.Sprintf("%d.5", k+1)})
	}
	return l
}

// described is a set as a ladder describes it: which parts of the line it covers, and how its bounds are spelled. Part 2k lies before step k, part 2k+1 is step k; edge p lies before part p, and the last edge after all parts.
type described struct {
	parts    []bool
	spelling map[int]string
}

// edges returns the edges at which the parts that are covered begin or end.
func (d described) edges() []int {
	var out []int
	last := false
	for p, covered := range d.parts {
		if covered != last {
			out = append(out, p)
		}
		last = covered
	}
	if last {
		out = append(out, len(d.parts))
	}
	return out
}

// set returns the range set that d describes.
func (l ladder) set(d described) api.RangeSet {
	r := api.RangeSet{Scheme: l.scheme}
	for pair := range slices.Chunk(d.edges(), 2) {
		p, q := pair[0], pair[1]
		i := api.Interval{Low: d.spelling[p], High: d.spelling[q]}
		if p > 0 {
			i.LowKind = []int{api.Open, api.Closed}[p%2]
		}
		if q < len(d.parts) {
			i.HighKind = []int{api.Closed, api.Open}[q%2]
		}
		r.Intervals = append(r.Intervals, i)
	}
	return r
}

// spelled returns the parts with spellings that are chosen at random.
func (l ladder) spelled(random *rand.Rand, parts []bool) described {
	d := described{parts, map[int]string{}}
	for _, p := range d.edges() {
		if 0 < p && p < len(parts) {
			step := l.steps[(p-1)/2]
			d.spelling[p] = step[random.IntN(len(step))]
		}
	}
	return d
}

// everySet returns all sets of parts.
func (l ladder) everySet() [][]bool {
	var out [][]bool
	n := 2*len(l.steps) + 1
	for mask := range 1 << n {
		parts := make([]bool, n)
		for p := range parts {
			parts[p] = mask>>p&1 == 1
		}
		out = append(out, parts)
	}
	return out
}

// randomSet returns the parts between at most n edges.
func (l ladder) randomSet(random *rand.Rand, n int) []bool {
	parts := make([]bool, 2*len(l.steps)+1)
	edges := map[int]bool{}
	for range n {
		edges[random.IntN(len(parts)+1)] = true
	}
	covered := false
	for p := range parts {
		covered = covered != edges[p]
		parts[p] = covered
	}
	return parts
}

// combined describes the set that covers what f says, with the least of the spellings that the arguments have at an edge.
func combined(f func(covered ...bool) bool, args ...described) described {
	d := described{make([]bool, len(args[0].parts)), map[int]string{}}
	for p := range d.parts {
		var covered []bool
		for _, x := range args {
			covered = append(covered, x.parts[p])
		}
		d.parts[p] = f(covered...)
	}
	for _, p := range d.edges() {
		var all []string
		for _, x := range args {
			if slices.Contains(x.edges(), p) {
				all = append(all, x.spelling[p])
			}
		}
		if len(all) > 0 {
			d.spelling[p] = slices.Min(all)
		}
	}
	return d
}

func either(covered ...bool) bool { return covered[0] || covered[1] }

func both(covered ...bool) bool { return covered[0] && covered[1] }

func firstOnly(covered ...bool) bool { return covered[0] && !covered[1] }

func not(covered ...bool) bool { return !covered[0] }

// expectContains checks what r contains, for every version of the ladder, against the description.
func (l ladder) expectContains(t *testing.T, r api.RangeSet, d described) {
	t.Helper()
	for p, covered := range d.parts {
		versions := l.gaps[p/2]
		if p%2 == 1 {
			versions = l.steps[p/2]
		}
		for _, v := range versions {
			if got := ranges.Contains(r, v); got != covered {
				t.Fatalf("%v contains %q: %t", r, v, got)
			}
		}
	}
}

func same(r, s api.RangeSet) bool {
	return r.Scheme == s.Scheme && slices.Equal(r.Intervals, s.Intervals)
}

// expectSet checks a result; with an error nothing else is returned.
func expectSet(t *testing.T, name string, got api.RangeSet, e api.Errno, want api.RangeSet, wantErr api.Errno) {
	t.Helper()
	if e != wantErr || !same(got, want) {
		t.Fatalf("%s: %v, error %d, want %v, error %d", name, got, e, want, wantErr)
	}
	if e == api.OK && !ranges.Valid(got) {
		t.Fatalf("%s: %v is not valid", name, got)
	}
}

// expectLimited checks the result that d describes, which has an error instead if it has too many intervals.
func (l ladder) expectLimited(t *testing.T, name string, got api.RangeSet, e api.Errno, d described) {
	t.Helper()
	want, wantErr := l.set(d), api.OK
	if len(want.Intervals) > api.MaxIntervals {
		want, wantErr = api.RangeSet{}, api.ErrLimit
	}
	expectSet(t, name, got, e, want, wantErr)
}

// expectOperations checks all operations on a and b against their descriptions.
func (l ladder) expectOperations(t *testing.T, x, y described) {
	t.Helper()
	a, b := l.set(x), l.set(y)
	name := fmt.Sprint(a, b)
	union, e := ranges.Union(a, b)
	l.expectLimited(t, "union of "+name, union, e, combined(either, x, y))
	common, e := ranges.Intersect(a, b)
	l.expectLimited(t, "intersection of "+name, common, e, combined(both, x, y))
	rest, e := ranges.Minus(a, b)
	l.expectLimited(t, "difference of "+name, rest, e, combined(firstOnly, x, y))
	subset, e := ranges.Subset(a, b)
	if want := !slices.Contains(combined(firstOnly, x, y).parts, true); e != api.OK || subset != want {
		t.Fatalf("subset of %s: %t, error %d, want %t", name, subset, e, want)
	}
	other, e := ranges.Complement(a)
	l.expectLimited(t, "complement of "+fmt.Sprint(a), other, e, combined(not, x))
}
