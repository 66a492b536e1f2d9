package pattern

import (
	"slices"

	"admission/api"
)

// What the last component of a beginning of a path is so far. Only one that is named may end.
const (
	nothing = iota
	dot
	dots
	named
)

// place is where a beginning of a path leads: how many parts of each pattern it has passed, and what its last component is.
type place struct {
	p, q      int
	component int
}

// arrival is how a place was reached first: from which place, and by which byte.
type arrival struct {
	from place
	by   byte
}

// Overlap returns a path that p and q both match; false if there is none.
func Overlap(p, q string) (string, bool) {
	a, okA := read(p)
	b, okB := read(q)
	if !okA || !okB {
		return "", false
	}
	arrivals := map[place]arrival{}
	var reached []place
	var reach func(place, arrival)
	reach = func(to place, how arrival) {
		if _, seen := arrivals[to]; seen {
			return
		}
		arrivals[to] = how
		reached = append(reached, to)
		if to.p < len(a) && a[to.p].sequence() {
			reach(place{to.p + 1, to.q, to.component}, how)
		}
		if to.q < len(b) && b[to.q].sequence() {
			reach(place{to.p, to.q + 1, to.component}, how)
		}
	}
	reach(place{}, arrival{})
	end := place{len(a), len(b), named}
	// All places of shorter beginnings are reached before those of longer ones, so that the path that is found is a shortest one.
	for n := 0; n <= api.MaxPath && len(reached) > 0; n++ {
		if _, found := arrivals[end]; found {
			return trace(arrivals, end, n), true
		}
		last := reached
		reached = nil
		for _, from := range last {
			follow(a, b, from, reach)
		}
	}
	return "", false
}

// follow calls reach with the places to which one more byte leads.
func follow(a, b []part, from place, reach func(place, arrival)) {
	if from.p == len(a) || from.q == len(b) {
		return
	}
	x, y := a[from.p], b[from.q]
	// Other bytes that both take would pass no other parts than these two do, and nothing could follow them that cannot follow these.
	for _, c := range [...]byte{x.sample, y.sample} {
		component, ok := grow(from.component, c)
		if ok && x.takes(c) && y.takes(c) {
			reach(place{from.p + passed(x), from.q + passed(y), component}, arrival{from, c})
		}
	}
}

// passed returns how many parts a byte passes that x takes.
func passed(x part) int {
	if x.sequence() {
		return 0
	}
	return 1
}

// grow returns what the last component is when c follows; false if no path goes on so.
func grow(component int, c byte) (int, bool) {
	switch c {
	case slash:
		return nothing, component == named
	case '.':
		return min(component+1, named), true
	}
	return named, true
}

// trace returns the n bytes that lead to the place end.
func trace(arrivals map[place]arrival, end place, n int) string {
	path := make([]byte, n)
	for i := range slices.Backward(path) {
		how := arrivals[end]
		path[i], end = how.by, how.from
	}
	return string(path)
}
