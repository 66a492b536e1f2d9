package agreement

import (
	"bytes"
	"cmp"
	"slices"
	"strings"

	"admission/api"
)

// groups returns the elements of l in the order of compare, those that are equal by it together. They are in the order of l among themselves.
func groups[T any](l []T, compare func(a, b T) int) [][]T {
	rest := slices.Clone(l)
	slices.SortStableFunc(rest, compare)
	var out [][]T
	for len(rest) > 0 {
		n := 1
		for n < len(rest) && compare(rest[0], rest[n]) == 0 {
			n++
		}
		out = append(out, rest[:n])
		rest = rest[n:]
	}
	return out
}

func byOwner(a, b api.Attested) int { return strings.Compare(a.Owner, b.Owner) }

// byLink orders camps in some way by their links, of which those that are the Same are equal.
func byLink(a, b api.Agreed) int {
	return cmp.Or(compareFiles(a.Link.Materials, b.Link.Materials), compareFiles(a.Link.Products, b.Link.Products))
}

func compareFiles(a, b []api.Entry) int { return slices.CompareFunc(a, b, compareEntries) }

func compareEntries(a, b api.Entry) int {
	return cmp.Or(strings.Compare(a.Path, b.Path), bytes.Compare(a.Digest[:], b.Digest[:]))
}

// bySize orders camps, no two of which have an owner in common.
func bySize(a, b api.Agreed) int {
	return cmp.Or(cmp.Compare(len(b.Owners), len(a.Owners)), strings.Compare(a.Owners[0], b.Owners[0]))
}
