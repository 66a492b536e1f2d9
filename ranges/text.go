package ranges

import (
	"strings"

	"admission/api"
)

const (
	noneText = "none"
	allText  = "*"
	orText   = " || "
	andText  = " "
)

// Format returns the text of r.
func Format(r api.RangeSet) (string, api.Errno) {
	if !Valid(r) {
		return "", api.ErrInvalid
	}
	if len(r.Intervals) == 0 {
		return noneText, api.OK
	}
	texts := make([]string, 0, len(r.Intervals))
	for _, i := range r.Intervals {
		texts = append(texts, text(i))
	}
	return strings.Join(texts, orText), api.OK
}

// text returns the text of an interval.
func text(i api.Interval) string {
	if i.LowKind == api.Closed && i.HighKind == api.Closed && i.Low == i.High {
		return "=" + i.Low
	}
	var bounds []string
	if i.LowKind != api.Unbounded {
		bounds = append(bounds, operator(">", i.LowKind)+i.Low)
	}
	if i.HighKind != api.Unbounded {
		bounds = append(bounds, operator("<", i.HighKind)+i.High)
	}
	if len(bounds) == 0 {
		return allText
	}
	return strings.Join(bounds, andText)
}

func operator(sign string, kind int) string {
	if kind == api.Closed {
		return sign + "="
	}
	return sign
}

// Parse returns the range set of the text s.
func Parse(scheme int, s string) (api.RangeSet, api.Errno) {
	if !known(scheme) {
		return api.RangeSet{}, api.ErrScheme
	}
	if len(s) > api.MaxRange {
		return api.RangeSet{}, api.ErrLimit
	}
	// All of s is read first, since an error of its form comes before one of a union.
	sets, ok := alternatives(scheme, s)
	if !ok {
		return api.RangeSet{}, api.ErrSyntax
	}
	var union []cut
	for _, x := range sets {
		union = combine(union, x, either)
		if tooMany(union) {
			return api.RangeSet{}, api.ErrLimit
		}
	}
	return rangeSet(scheme, union)
}

// alternatives returns the cuts of each alternative of s.
func alternatives(scheme int, s string) ([][]cut, bool) {
	var out [][]cut
	for part := range strings.SplitSeq(s, orText) {
		x, ok := alternative(scheme, part)
		if !ok {
			return nil, false
		}
		out = append(out, x)
	}
	return out, true
}

// alternative returns the cuts of what satisfies all conditions of s.
func alternative(scheme int, s string) ([]cut, bool) {
	switch s {
	case noneText:
		return nil, true
	case allText:
		return everything(), true
	}
	cuts := everything()
	for part := range strings.SplitSeq(s, andText) {
		x, ok := condition(scheme, part)
		if !ok {
			return nil, false
		}
		cuts = combine(cuts, x, both)
	}
	return cuts, true
}

// condition returns the cuts of what satisfies the condition s.
func condition(scheme int, s string) ([]cut, bool) {
	// No version begins with one of these signs.
	v := strings.TrimLeft(s, "<=>")
	var i api.Interval
	switch s[:len(s)-len(v)] {
	case "=":
		i = api.Interval{Low: v, LowKind: api.Closed, High: v, HighKind: api.Closed}
	case "<":
		i = api.Interval{High: v, HighKind: api.Open}
	case "<=":
		i = api.Interval{High: v, HighKind: api.Closed}
	case ">":
		i = api.Interval{Low: v, LowKind: api.Open}
	case ">=":
		i = api.Interval{Low: v, LowKind: api.Closed}
	default:
		return nil, false
	}
	return cutsOf(api.RangeSet{Scheme: scheme, Intervals: []api.Interval{i}})
}
