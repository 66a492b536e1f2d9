package ranges

import (
	"cmp"
	"slices"
	"strings"

	"admission/api"
	"admission/version"
)

// side is a side of a version, or an end of an interval.
type side int

const (
	low  side = -1
	high side = 1
)

// cut is a point between versions. A set is computed with as the cuts at which its intervals begin and end, in ascending order.
type cut struct {
	beyond side   // on which side of all versions it is; 0 if it is at a version
	key    string // the key of the version
	side   side   // on which side of the version it is
	text   string // the version as a bound at the cut writes it; it does not count in the order
}

// compare returns the order of two cuts.
func compare(x, y cut) int {
	return cmp.Or(cmp.Compare(x.beyond, y.beyond), strings.Compare(x.key, y.key), cmp.Compare(x.side, y.side))
}

func everything() []cut { return []cut{{beyond: low}, {beyond: high}} }

// inside reports whether a set covers what follows the first n of its cuts.
func inside(n int) bool { return n%2 == 1 }

func either(a, b bool) bool { return a || b }

func both(a, b bool) bool { return a && b }

func firstOnly(a, b bool) bool { return a && !b }

// combine returns the cuts of the set that covers the parts of the line for which covered returns true, given whether a and b cover them. It must return false for what neither covers.
func combine(a, b []cut, covered func(a, b bool) bool) []cut {
	var out []cut
	for i, j := 0, 0; i < len(a) || j < len(b); {
		c := next(a[i:], b[j:])
		i += passed(a[i:], c)
		j += passed(b[j:], c)
		if covered(inside(i), inside(j)) != inside(len(out)) {
			out = append(out, c)
		}
	}
	return out
}

// next returns the least of the cuts of a and b, which are not both empty, with the least of the texts that they have there.
func next(a, b []cut) cut {
	switch {
	case len(a) == 0:
		return b[0]
	case len(b) == 0:
		return a[0]
	case cmp.Or(compare(a[0], b[0]), strings.Compare(a[0].text, b[0].text)) < 0:
		return a[0]
	}
	return b[0]
}

// passed returns how many cuts of l are at c, which none of them is less than.
func passed(l []cut, c cut) int {
	if len(l) > 0 && compare(l[0], c) == 0 {
		return 1
	}
	return 0
}

// cutsOf returns the cuts of r; false if r is not valid.
func cutsOf(r api.RangeSet) ([]cut, bool) {
	if !known(r.Scheme) || len(r.Intervals) > api.MaxIntervals {
		return nil, false
	}
	cuts := make([]cut, 0, 2*len(r.Intervals))
	for _, i := range r.Intervals {
		begin, ok := cutAt(r.Scheme, low, i.LowKind, i.Low)
		if !ok {
			return nil, false
		}
		end, ok := cutAt(r.Scheme, high, i.HighKind, i.High)
		if !ok {
			return nil, false
		}
		cuts = append(cuts, begin, end)
	}
	return cuts, ascending(cuts)
}

func ascending(cuts []cut) bool {
	for n := 1; n < len(cuts); n++ {
		if compare(cuts[n-1], cuts[n]) >= 0 {
			return false
		}
	}
	return true
}

// cutAt returns the cut of a bound at this end of an interval; false if there is no such bound. An unbounded end is beyond all versions on its side, a closed one is on its side of the version, an open one on the other side.
func cutAt(scheme int, end side, kind int, v string) (cut, bool) {
	c := cut{side: end, text: v}
	switch kind {
	case api.Unbounded:
		return cut{beyond: end}, v == ""
	case api.Closed:
	case api.Open:
		c.side = -end
	default:
		return cut{}, false
	}
	key, e := version.Key(scheme, v)
	c.key = key
	return c, e == api.OK
}

// rangeSet returns the range set with these cuts.
func rangeSet(scheme int, cuts []cut) (api.RangeSet, api.Errno) {
	if tooMany(cuts) {
		return api.RangeSet{}, api.ErrLimit
	}
	r := api.RangeSet{Scheme: scheme}
	for pair := range slices.Chunk(cuts, 2) {
		begin, end := pair[0], pair[1]
		r.Intervals = append(r.Intervals, api.Interval{Low: begin.text, LowKind: begin.kind(low), High: end.text, HighKind: end.kind(high)})
	}
	return r, api.OK
}

func tooMany(cuts []cut) bool { return len(cuts) > 2*api.MaxIntervals }

// kind returns the kind of a bound at c that is this end of an interval.
func (c cut) kind(end side) int {
	switch {
	case c.beyond != 0:
		return api.Unbounded
	case c.side == end:
		return api.Closed
	}
	return api.Open
}
