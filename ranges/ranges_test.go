package ranges_test

import (
	"fmt"
	"math/rand/v2"
	"slices"
	"strings"
	"sync"
	"testing"

	"admission/api"
	"admission/ranges"
)

// schemes returns the schemes that there are.
func schemes() []int { return []int{api.Semver, api.Debian, api.Dotted} }

// notSchemes returns numbers that are no schemes.
func notSchemes() []int {
	return []int{0, 4, -1, 5, 100, 257, 1<<8 + api.Debian, 1<<16 + api.Semver, 1<<32 + api.Dotted, -1 << 63, 1<<63 - 1}
}

// dotted returns a set of the scheme Dotted.
func dotted(l ...api.Interval) api.RangeSet {
	return api.RangeSet{Scheme: api.Dotted, Intervals: l}
}

// from, above, upTo and below return intervals with one bound.
func from(v string) api.Interval { return api.Interval{Low: v, LowKind: api.Closed} }

func above(v string) api.Interval { return api.Interval{Low: v, LowKind: api.Open} }

func upTo(v string) api.Interval { return api.Interval{High: v, HighKind: api.Closed} }

func below(v string) api.Interval { return api.Interval{High: v, HighKind: api.Open} }

// bounded returns the interval with the low bound of a and the high bound of b.
func bounded(a, b api.Interval) api.Interval {
	return api.Interval{Low: a.Low, LowKind: a.LowKind, High: b.High, HighKind: b.HighKind}
}

// points returns the set of the versions 1 to n of the scheme Dotted.
func points(n int) api.RangeSet {
	var l []api.Interval
	for k := range n {
		v := fmt.Sprint(k + 1)
		l = append(l, bounded(from(v), upTo(v)))
	}
	return dotted(l...)
}

// operation is a function of two sets.
type operation struct {
	name string
	f    func(a, b api.RangeSet) (api.RangeSet, api.Errno)
}

func operations() []operation {
	return []operation{{"union", ranges.Union}, {"intersection", ranges.Intersect}, {"difference", ranges.Minus}}
}

// Promises 7.1 and 7.3: the bounds of an interval, and the versions that satisfy them.
func TestBounds(t *testing.T) {
	tests := []struct {
		i   api.Interval
		in  string
		out string
	}{
		{api.Interval{}, "0 00 1 1.0 1.0.1 2 2.0 99999999999999999999 1.5", ""},
		{from("1"), "1 1.0 01 1.0.0.1 2 99999999999999999999", "0 0.9 0.99999999999999999999 00"},
		{above("1"), "1.0.0.1 2 01.1", "1 1.0 01 0 0.9"},
		{upTo("2.0"), "0 1 1.99 2 2.0 02.0.0", "2.0.1 3 10"},
		{below("2.0"), "0 1 1.99", "2 2.0 02.0.0 2.0.1 3 10"},
		{bounded(from("1"), upTo("2")), "1 1.0 1.5 2 2.0", "0 0.9 2.0.1 3"},
		{bounded(above("1"), upTo("2")), "1.5 2 2.0", "0 1 1.0 2.0.1 3"},
		{bounded(from("1"), below("2")), "1 1.0 1.5 1.99", "0 0.9 2 2.0 3"},
		{bounded(above("1"), below("2")), "1.0.1 1.5 1.99", "0 1 1.0 2 2.0 3"},
		{bounded(from("1"), upTo("1.0")), "1 1.0 01", "0 0.9 1.0.1 2"},
		{below("0"), "", "0 00 0.0 0.1 1"},
	}
	for _, x := range tests {
		r := dotted(x.i)
		if !ranges.Valid(r) {
			t.Errorf("%v is valid", r)
		}
		for _, v := range strings.Fields(x.in) {
			if !ranges.Contains(r, v) {
				t.Errorf("%v contains %q", r, v)
			}
		}
		for _, v := range append(strings.Fields(x.out), "", " ", "x", "1.", ".1", "1 ", "1.0.0-a", "1:1", "*", "\xff", strings.Repeat("1", api.MaxVersion+1)) {
			if ranges.Contains(r, v) {
				t.Errorf("%v does not contain %q", r, v)
			}
		}
	}
}

// Promises 7.1 and 7.3: every set of the parts of a ladder of each scheme, whatever the spellings.
func TestContains(t *testing.T) {
	random := rand.New(rand.NewPCG(7, 1))
	for _, l := range ladders() {
		for _, parts := range l.everySet() {
			d := l.spelled(random, parts)
			r := l.set(d)
			if !ranges.Valid(r) {
				t.Fatalf("%v is valid", r)
			}
			l.expectContains(t, r, d)
		}
	}
}

// Promise 7.3: a version of another scheme is not contained.
func TestContainsByScheme(t *testing.T) {
	tests := []struct {
		v                      string
		semver, debian, dotted bool
	}{
		{"1", false, true, true}, {"1.0.0", true, true, true}, {"01.0.0", false, true, true}, {"1.0.0-1", true, true, false}, {"1.0.0--", true, false, false},
		{"1:1.0.0", false, true, false}, {"v1.0.0", false, false, false}, {"", false, false, false}, {strings.Repeat("1", api.MaxVersion), false, true, true}, {strings.Repeat("1", api.MaxVersion+1), false, false, false},
	}
	for _, x := range tests {
		for i, want := range []bool{x.semver, x.debian, x.dotted} {
			r := api.RangeSet{Scheme: schemes()[i], Intervals: []api.Interval{{}}}
			if got := ranges.Contains(r, x.v); got != want {
				t.Errorf("scheme %d: all contains %q: %t", r.Scheme, x.v, got)
			}
		}
		for _, scheme := range notSchemes() {
			if ranges.Contains(api.RangeSet{Scheme: scheme, Intervals: []api.Interval{{}}}, x.v) {
				t.Errorf("scheme %d contains %q", scheme, x.v)
			}
		}
	}
}

// Promise 7.2: each condition of a valid set, broken alone.
func TestValid(t *testing.T) {
	long, tooLong := strings.Repeat("1", api.MaxVersion), strings.Repeat("1", api.MaxVersion+1)
	valid := []api.RangeSet{
		dotted(), dotted(api.Interval{}), {Scheme: api.Semver}, {Scheme: api.Debian, Intervals: []api.Interval{{}}},
		dotted(from(long)), dotted(upTo(long)), dotted(bounded(from(long), upTo(long))), dotted(bounded(from("1.0"), upTo("1"))),
		dotted(below("0")), dotted(below("1"), above("1")), dotted(below("1"), above("1.0")), dotted(upTo("1"), from("1.0.1")), dotted(below("1"), bounded(above("1"), below("2")), above("2")),
		dotted(bounded(above("0"), below("0.1")), bounded(above("0.1"), below("0.2"))), points(api.MaxIntervals), points(31),
		{Scheme: api.Semver, Intervals: []api.Interval{bounded(above("1.0.0"), below("1.0.1-0"))}}, {Scheme: api.Debian, Intervals: []api.Interval{below("1.0~"), bounded(from("1.0"), below("1.0-1"))}},
	}
	for _, r := range valid {
		expectValid(t, r, true)
	}
	invalid := []api.RangeSet{
		{}, {Intervals: []api.Interval{{}}}, points(api.MaxIntervals + 1), points(api.MaxIntervals + 2), points(1000),
		dotted(from("")), dotted(above("")), dotted(upTo("")), dotted(below("")), dotted(api.Interval{Low: "1"}), dotted(api.Interval{High: "1"}), dotted(api.Interval{Low: " "}), dotted(api.Interval{High: "x"}),
		dotted(from("x")), dotted(upTo("1.")), dotted(from("1.0-1")), dotted(below("1 ")), dotted(from(tooLong)), dotted(upTo(tooLong)), dotted(from(strings.Repeat("1", 1<<20))),
		dotted(bounded(from("2"), upTo("1"))), dotted(bounded(from("1"), below("1"))), dotted(bounded(above("1"), upTo("1"))), dotted(bounded(above("1"), below("1"))), dotted(bounded(from("1"), below("1.0"))), dotted(bounded(above("1.0"), upTo("1"))), dotted(bounded(above("01"), below("1"))),
		dotted(api.Interval{}, api.Interval{}), dotted(api.Interval{}, from("1")), dotted(below("1"), api.Interval{}), dotted(from("1"), from("2")), dotted(from("1"), bounded(from("2"), upTo("3"))), dotted(upTo("1"), upTo("2")), dotted(bounded(from("1"), upTo("2")), upTo("3")),
		dotted(below("1"), from("1")), dotted(below("1"), from("1.0")), dotted(upTo("1"), above("1")), dotted(upTo("1.0"), above("1")), dotted(upTo("1"), from("1")), dotted(upTo("2"), from("1")), dotted(from("2"), below("1")),
		dotted(below("1"), bounded(above("1"), below("2")), from("2")), dotted(below("3"), bounded(above("1"), below("2")), above("4")), dotted(bounded(from("3"), upTo("4")), bounded(from("1"), upTo("2"))),
		{Scheme: api.Semver, Intervals: []api.Interval{from("1")}}, {Scheme: api.Semver, Intervals: []api.Interval{bounded(from("1.0.0+a"), below("1.0.0+b"))}}, {Scheme: api.Debian, Intervals: []api.Interval{upTo("1.0"), above("1.0-0")}},
	}
	for _, r := range invalid {
		expectValid(t, r, false)
	}
	for _, scheme := range notSchemes() {
		expectValid(t, api.RangeSet{Scheme: scheme}, false)
		expectValid(t, api.RangeSet{Scheme: scheme, Intervals: []api.Interval{{}}}, false)
		expectValid(t, api.RangeSet{Scheme: scheme, Intervals: []api.Interval{from("1.0.0")}}, false)
	}
	for _, kind := range []int{-1, 3, 4, 256, 257, 1 << 32, 1<<32 + 1, -1 << 63, 1<<63 - 1} {
		for _, v := range []string{"", "1", "x"} {
			expectValid(t, dotted(api.Interval{Low: v, LowKind: kind}), false)
			expectValid(t, dotted(api.Interval{High: v, HighKind: kind}), false)
			expectValid(t, dotted(api.Interval{High: "9", HighKind: api.Open, Low: v, LowKind: kind}), false)
		}
	}
}

// expectValid checks what all functions say of a set that is valid, or is not.
func expectValid(t *testing.T, r api.RangeSet, want bool) {
	t.Helper()
	if got := ranges.Valid(r); got != want {
		t.Errorf("%.200v valid: %t", fmt.Sprint(r), got)
	}
	if want {
		return
	}
	if ranges.Contains(r, "1") || ranges.Contains(r, "1.0.0") {
		t.Errorf("%.200v contains a version", fmt.Sprint(r))
	}
	text, e := ranges.Format(r)
	if text != "" || e != api.ErrInvalid {
		t.Errorf("%.200v: text %q, error %d", fmt.Sprint(r), text, e)
	}
	got, e := ranges.Complement(r)
	expectSet(t, "complement", got, e, api.RangeSet{}, api.ErrInvalid)
	// Whatever the other argument is, and whatever else is wrong.
	for _, other := range []api.RangeSet{r, dotted(), dotted(api.Interval{}), {Scheme: api.Semver}, {}, points(api.MaxIntervals + 1)} {
		for _, o := range operations() {
			got, e := o.f(r, other)
			expectSet(t, o.name, got, e, api.RangeSet{}, api.ErrInvalid)
			got, e = o.f(other, r)
			expectSet(t, o.name, got, e, api.RangeSet{}, api.ErrInvalid)
		}
		expectSubset(t, r, other, false, api.ErrInvalid)
		expectSubset(t, other, r, false, api.ErrInvalid)
	}
}

func expectSubset(t *testing.T, a, b api.RangeSet, want bool, wantErr api.Errno) {
	t.Helper()
	if got, e := ranges.Subset(a, b); got != want || e != wantErr {
		t.Errorf("subset of %.200v: %t, error %d, want %t, error %d", fmt.Sprint(a, b), got, e, want, wantErr)
	}
}

// place returns the number of the cut of a bound among those of the versions 1 and 2; false if there is no such bound.
func place(kind int, v string, low bool) (int, bool) {
	at := map[string]int{"1": 1, "1.0": 1, "2": 3}[v]
	switch {
	case kind == api.Unbounded && v == "" && low:
		return 0, true
	case kind == api.Unbounded && v == "":
		return 5, true
	case at > 0 && kind == api.Closed && low || at > 0 && kind == api.Open && !low:
		return at, true
	case at > 0 && (kind == api.Closed || kind == api.Open):
		return at + 1, true
	}
	return 0, false
}

// Promise 7.2: every list of at most two of the intervals that a few kinds and strings make.
func TestValidOfEverySmallList(t *testing.T) {
	type numbered struct {
		i      api.Interval
		p, q   int
		bounds bool
	}
	var all []numbered
	strs, kinds := []string{"", "1", "1.0", "2", "x"}, []int{api.Unbounded, api.Closed, api.Open, 3}
	for _, lowKind := range kinds {
		for _, low := range strs {
			for _, highKind := range kinds {
				for _, high := range strs {
					p, ok := place(lowKind, low, true)
					q, fine := place(highKind, high, false)
					all = append(all, numbered{api.Interval{Low: low, LowKind: lowKind, High: high, HighKind: highKind}, p, q, ok && fine && p < q})
				}
			}
		}
	}
	some := 0
	for _, x := range all {
		if got := ranges.Valid(dotted(x.i)); got != x.bounds {
			t.Fatalf("%v: %t", x.i, got)
		}
		for _, y := range all {
			want := x.bounds && y.bounds && x.q < y.p
			if got := ranges.Valid(dotted(x.i, y.i)); got != want {
				t.Fatalf("%v %v: %t", x.i, y.i, got)
			}
			if want {
				some++
			}
		}
	}
	if some == 0 {
		t.Error("no valid list of two intervals")
	}
}

// Promise 7.3: all and none of each scheme, and no others.
func TestAllAndNone(t *testing.T) {
	for _, scheme := range schemes() {
		all, e := ranges.All(scheme)
		expectSet(t, "all", all, e, api.RangeSet{Scheme: scheme, Intervals: []api.Interval{{}}}, api.OK)
		none, e := ranges.None(scheme)
		expectSet(t, "none", none, e, api.RangeSet{Scheme: scheme}, api.OK)
		if !ranges.Contains(all, "1.0.0") || ranges.Contains(none, "1.0.0") {
			t.Errorf("scheme %d: all and none", scheme)
		}
	}
	for _, scheme := range notSchemes() {
		all, e := ranges.All(scheme)
		expectSet(t, "all", all, e, api.RangeSet{}, api.ErrScheme)
		none, e := ranges.None(scheme)
		expectSet(t, "none", none, e, api.RangeSet{}, api.ErrScheme)
	}
}

// Promise 7.4: some operations written out.
func TestOperations(t *testing.T) {
	some := dotted(below("1"), bounded(from("2"), below("3")), above("4"))
	tests := []struct {
		a, b                    api.RangeSet
		union, common, rest, no api.RangeSet
	}{
		{dotted(), dotted(), dotted(), dotted(), dotted(), dotted(api.Interval{})},
		{dotted(api.Interval{}), dotted(), dotted(api.Interval{}), dotted(), dotted(api.Interval{}), dotted()},
		{dotted(), dotted(api.Interval{}), dotted(api.Interval{}), dotted(), dotted(), dotted(api.Interval{})},
		{dotted(bounded(from("1"), below("2"))), dotted(bounded(from("2"), below("3"))), dotted(bounded(from("1"), below("3"))), dotted(), dotted(bounded(from("1"), below("2"))), dotted(below("1"), from("2"))},
		{dotted(below("1")), dotted(above("1")), dotted(below("1"), above("1")), dotted(), dotted(below("1")), dotted(from("1"))},
		{dotted(upTo("1")), dotted(from("1")), dotted(api.Interval{}), dotted(bounded(from("1"), upTo("1"))), dotted(below("1")), dotted(above("1"))},
		{some, dotted(bounded(above("0"), below("5"))), dotted(api.Interval{}), dotted(bounded(above("0"), below("1")), bounded(from("2"), below("3")), bounded(above("4"), below("5"))), dotted(upTo("0"), from("5")), dotted(bounded(from("1"), below("2")), bounded(from("3"), upTo("4")))},
		// The least string at a cut, whether it is a low or a high bound there.
		{dotted(from("1.0")), dotted(from("1")), dotted(from("1")), dotted(from("1")), dotted(), dotted(below("1.0"))},
		{dotted(below("1.0")), dotted(from("1")), dotted(api.Interval{}), dotted(), dotted(below("1")), dotted(from("1.0"))},
		{dotted(below("01")), dotted(from("1")), dotted(api.Interval{}), dotted(), dotted(below("01")), dotted(from("01"))},
		{dotted(from("1.0")), dotted(below("1")), dotted(api.Interval{}), dotted(), dotted(from("1")), dotted(below("1.0"))},
		{dotted(upTo("2.0")), dotted(bounded(from("1"), upTo("2"))), dotted(upTo("2")), dotted(bounded(from("1"), upTo("2"))), dotted(below("1")), dotted(above("2.0"))},
		// Strings at other cuts of the same version do not count.
		{dotted(upTo("1.0")), dotted(from("1")), dotted(api.Interval{}), dotted(bounded(from("1"), upTo("1.0"))), dotted(below("1")), dotted(above("1.0"))},
		{dotted(from("1.0")), dotted(above("1")), dotted(from("1.0")), dotted(above("1")), dotted(bounded(from("1.0"), upTo("1"))), dotted(below("1.0"))},
		{dotted(bounded(from("1.0"), upTo("1"))), dotted(bounded(from("1"), upTo("1.0"))), dotted(bounded(from("1"), upTo("1"))), dotted(bounded(from("1"), upTo("1"))), dotted(), dotted(below("1.0"), above("1"))},
		// No version lies in these parts of the line.
		{dotted(below("0")), dotted(from("0")), dotted(api.Interval{}), dotted(), dotted(below("0")), dotted(from("0"))},
		{dotted(upTo("0")), dotted(from("00")), dotted(api.Interval{}), dotted(bounded(from("00"), upTo("0"))), dotted(below("00")), dotted(above("0"))},
	}
	for _, x := range tests {
		got, e := ranges.Union(x.a, x.b)
		expectSet(t, fmt.Sprint("union of ", x.a, x.b), got, e, x.union, api.OK)
		got, e = ranges.Intersect(x.a, x.b)
		expectSet(t, fmt.Sprint("intersection of ", x.a, x.b), got, e, x.common, api.OK)
		got, e = ranges.Minus(x.a, x.b)
		expectSet(t, fmt.Sprint("difference of ", x.a, x.b), got, e, x.rest, api.OK)
		expectSubset(t, x.a, x.b, len(x.rest.Intervals) == 0, api.OK)
		got, e = ranges.Complement(x.a)
		expectSet(t, fmt.Sprint("complement of ", x.a), got, e, x.no, api.OK)
	}
}

// Promise 7.4: parts of the line in which no version lies are covered, or not, like others.
func TestPartsWithoutVersions(t *testing.T) {
	semver := func(l ...api.Interval) api.RangeSet { return api.RangeSet{Scheme: api.Semver, Intervals: l} }
	empty := semver(bounded(above("1.0.0"), below("1.0.1-0")))
	none := semver()
	expectSubset(t, empty, none, false, api.OK)
	expectSubset(t, semver(below("0.0.0-0")), none, false, api.OK)
	got, e := ranges.Minus(empty, none)
	expectSet(t, "difference", got, e, empty, api.OK)
	got, e = ranges.Union(semver(upTo("1.0.0")), semver(from("1.0.1-0")))
	expectSet(t, "union", got, e, semver(upTo("1.0.0"), from("1.0.1-0")), api.OK)
	got, e = ranges.Complement(semver(from("0.0.0-0")))
	expectSet(t, "complement", got, e, semver(below("0.0.0-0")), api.OK)
	got, e = ranges.Intersect(semver(below("1.0.1-0")), semver(above("1.0.0")))
	expectSet(t, "intersection", got, e, empty, api.OK)
}

// Promises 7.4 and 7.7: all operations on every pair of sets of the parts of a ladder, whatever the spellings.
func TestEveryPair(t *testing.T) {
	random := rand.New(rand.NewPCG(7, 4))
	for _, l := range ladders() {
		for _, x := range l.everySet() {
			for _, y := range l.everySet() {
				if testing.Short() && random.IntN(20) > 0 {
					continue
				}
				l.expectOperations(t, l.spelled(random, x), l.spelled(random, y))
			}
		}
	}
}

// Promises 7.4 and 7.7: sets with many intervals, and results with too many.
func TestRandomPairs(t *testing.T) {
	random := rand.New(rand.NewPCG(7, 5))
	l := longLadder(70)
	for range 1000 {
		x := l.spelled(random, l.randomSet(random, 1+random.IntN(2*api.MaxIntervals)))
		y := l.spelled(random, l.randomSet(random, 1+random.IntN(2*api.MaxIntervals)))
		l.expectContains(t, l.set(x), x)
		l.expectOperations(t, x, y)
	}
}

// Promise 7.7: what the results of operations contain, by what their arguments contain.
func TestBooleanCombinations(t *testing.T) {
	random := rand.New(rand.NewPCG(7, 7))
	for _, l := range ladders() {
		var sets []api.RangeSet
		for range 25 {
			sets = append(sets, l.set(l.spelled(random, l.randomSet(random, 6))))
		}
		versions := slices.Concat(slices.Concat(l.steps...), slices.Concat(l.gaps...))
		for _, a := range sets {
			for _, b := range sets {
				expectCombinations(t, a, b, versions)
			}
		}
	}
}

func expectCombinations(t *testing.T, a, b api.RangeSet, versions []string) {
	t.Helper()
	union, e1 := ranges.Union(a, b)
	common, e2 := ranges.Intersect(a, b)
	rest, e3 := ranges.Minus(a, b)
	no, e4 := ranges.Complement(a)
	if e1 != api.OK || e2 != api.OK || e3 != api.OK || e4 != api.OK {
		t.Fatalf("%v %v: errors %d, %d, %d, %d", a, b, e1, e2, e3, e4)
	}
	for _, v := range versions {
		p, q := ranges.Contains(a, v), ranges.Contains(b, v)
		got := []bool{ranges.Contains(union, v), ranges.Contains(common, v), ranges.Contains(rest, v), ranges.Contains(no, v)}
		if want := []bool{p || q, p && q, p && !q, !p}; !slices.Equal(got, want) {
			t.Fatalf("%v %v: %q: %t, want %t", a, b, v, got, want)
		}
	}
}

// Promise 7.4, rule R5: sets of two schemes, of which the first error is that one is not valid.
func TestSchemesDiffer(t *testing.T) {
	for _, s := range schemes() {
		for _, u := range schemes() {
			for _, x := range [][]api.Interval{nil, {{}}, {from("1.0.0")}, {bounded(from("1.0.0"), upTo("1.0.0"))}} {
				for _, y := range [][]api.Interval{nil, {{}}, {below("2.0.0")}} {
					if s == u {
						continue
					}
					a, b := api.RangeSet{Scheme: s, Intervals: x}, api.RangeSet{Scheme: u, Intervals: y}
					for _, o := range operations() {
						got, e := o.f(a, b)
						expectSet(t, o.name, got, e, api.RangeSet{}, api.ErrScheme)
					}
					expectSubset(t, a, b, false, api.ErrScheme)
				}
			}
		}
	}
	// The union of these would also have too many intervals.
	many := points(api.MaxIntervals)
	for _, o := range operations() {
		got, e := o.f(many, api.RangeSet{Scheme: api.Debian, Intervals: []api.Interval{above("99")}})
		expectSet(t, o.name, got, e, api.RangeSet{}, api.ErrScheme)
	}
}

// Promise 7.4: results with exactly MaxIntervals intervals, and with one more.
func TestLimits(t *testing.T) {
	const most = api.MaxIntervals
	full, all := points(most), dotted(api.Interval{})
	last := dotted(bounded(from("33"), upTo("33")))
	got, e := ranges.Union(points(most-1), dotted(bounded(from("32"), upTo("32"))))
	expectSet(t, "union", got, e, full, api.OK)
	got, e = ranges.Union(full, last)
	expectSet(t, "union", got, e, api.RangeSet{}, api.ErrLimit)
	got, e = ranges.Union(last, full)
	expectSet(t, "union", got, e, api.RangeSet{}, api.ErrLimit)
	got, e = ranges.Union(full, all)
	expectSet(t, "union", got, e, all, api.OK)
	got, e = ranges.Complement(full)
	expectSet(t, "complement", got, e, api.RangeSet{}, api.ErrLimit)
	got, e = ranges.Minus(all, full)
	expectSet(t, "difference", got, e, api.RangeSet{}, api.ErrLimit)
	got, e = ranges.Complement(points(most - 1))
	if e != api.OK || len(got.Intervals) != most {
		t.Errorf("complement: %d intervals, error %d", len(got.Intervals), e)
	}
	back, e := ranges.Complement(got)
	expectSet(t, "complement", back, e, points(most-1), api.OK)
	expectSubset(t, all, full, false, api.OK)
	expectSubset(t, full, all, true, api.OK)
	expectSubset(t, full, full, true, api.OK)
	// Each interval of one set overlaps two of the other one.
	var low, high []api.Interval
	for k := range most {
		low = append(low, bounded(from(fmt.Sprint(4*k)), upTo(fmt.Sprint(4*k+2))))
		high = append(high, bounded(from(fmt.Sprint(4*k+2)), upTo(fmt.Sprint(4*k+4))))
	}
	got, e = ranges.Intersect(dotted(low...), dotted(high...))
	expectSet(t, "intersection", got, e, api.RangeSet{}, api.ErrLimit)
	got, e = ranges.Intersect(dotted(low[:16]...), dotted(high...))
	if e != api.OK || len(got.Intervals) != 31 {
		t.Errorf("intersection: %d intervals, error %d", len(got.Intervals), e)
	}
	got, e = ranges.Intersect(dotted(low[:17]...), dotted(high[:16]...))
	if e != api.OK || len(got.Intervals) != most {
		t.Errorf("intersection: %d intervals, error %d", len(got.Intervals), e)
	}
	got, e = ranges.Intersect(dotted(low[:17]...), dotted(high[:17]...))
	expectSet(t, "intersection", got, e, api.RangeSet{}, api.ErrLimit)
}

// Rule R4: arguments stay as they are, with the memory behind them, and results share none with them.
func TestArgumentsStay(t *testing.T) {
	whole := append(points(3).Intervals, from("7.0"), above("behind"))
	before := slices.Clone(whole)
	a, b := dotted(whole[:4:5]...), dotted(whole[:2]...)
	none, all := dotted(), dotted(api.Interval{})
	results := func() []api.RangeSet {
		var out []api.RangeSet
		for _, o := range operations() {
			for _, x := range []api.RangeSet{a, b, none, all} {
				for _, y := range []api.RangeSet{a, b, none, all} {
					r, e := o.f(x, y)
					if e != api.OK {
						t.Fatalf("%s: error %d", o.name, e)
					}
					out = append(out, r)
				}
			}
		}
		no, _ := ranges.Complement(a)
		every, _ := ranges.All(api.Dotted)
		parsed, _ := ranges.Parse(api.Dotted, "<1 || >2")
		return append(out, no, every, parsed)
	}
	first, second := results(), results()
	ranges.Subset(a, b)
	ranges.Contains(a, "1")
	ranges.Format(a)
	for k, r := range first {
		if !same(r, second[k]) {
			t.Errorf("%v, and then %v", r, second[k])
		}
	}
	for _, r := range first {
		behind := r.Intervals[:cap(r.Intervals)]
		for i := range behind {
			behind[i] = above("changed")
		}
	}
	if !slices.Equal(whole, before) || !same(all, dotted(api.Interval{})) {
		t.Errorf("%v, and before %v", whole, before)
	}
	for k, r := range results() {
		if !same(r, second[k]) {
			t.Errorf("%v, and before %v", r, second[k])
		}
	}
}

// Rules R1, R3 and R6: any sets and strings, the same results again, and from several goroutines at once.
func TestAnySets(t *testing.T) {
	random := rand.New(rand.NewPCG(7, 8))
	strs := []string{"", "", "0", "1", "1.0.0", "1.0.0+a", "2.0.0", "x", "\xff", "1:0", strings.Repeat("9", 70)}
	var sets []api.RangeSet
	for range 400 {
		r := api.RangeSet{Scheme: random.IntN(5)}
		for range random.IntN(4) {
			low, high := strs[random.IntN(len(strs))], strs[random.IntN(len(strs))]
			r.Intervals = append(r.Intervals, api.Interval{Low: low, LowKind: random.IntN(5) - 1, High: high, HighKind: random.IntN(5) - 1})
		}
		sets = append(sets, r)
	}
	results := make([]string, 4)
	var group sync.WaitGroup
	for worker := range results {
		group.Go(func() {
			var b strings.Builder
			for i, r := range sets {
				other := sets[(i+1)%len(sets)]
				for _, o := range operations() {
					got, e := o.f(r, other)
					fmt.Fprintln(&b, got, e)
				}
				no, e1 := ranges.Complement(r)
				subset, e2 := ranges.Subset(r, other)
				text, e3 := ranges.Format(r)
				fmt.Fprintln(&b, no, e1, subset, e2, text, e3, ranges.Valid(r), ranges.Contains(r, strs[i%len(strs)]))
			}
			results[worker] = b.String()
		})
	}
	group.Wait()
	for _, r := range results {
		if r != results[0] {
			t.Error("results differ")
		}
	}
	if valid := slices.ContainsFunc(sets, func(r api.RangeSet) bool { return len(r.Intervals) > 0 && ranges.Valid(r) }); !valid {
		t.Error("no set with intervals is valid")
	}
}
