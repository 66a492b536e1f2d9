package snapshot

import (
	"iter"
	"slices"

	"admission/api"
	"admission/pattern"
)

// Diff returns the changes from a to b.
func Diff(a, b []api.Entry) ([]api.Change, api.Errno) {
	if !Valid(a) || !Valid(b) {
		return nil, api.ErrInvalid
	}
	// The way from a to b may pass through no files at all, where any two such lists meet.
	l, _ := follow(inverse(creations(a)), creations(b))
	return l, api.OK
}

// Apply returns s after the changes of l.
func Apply(s []api.Entry, l []api.Change) ([]api.Entry, api.Errno) {
	if !Valid(s) || !validChanges(l) {
		return nil, api.ErrInvalid
	}
	// The creation of s begins with no files, and so must what it becomes with l behind it.
	made, ok := follow(creations(s), l)
	if !ok || slices.ContainsFunc(made, needsFile) {
		return nil, api.ErrMismatch
	}
	if len(made) > api.MaxEntries {
		return nil, api.ErrLimit
	}
	out := make([]api.Entry, 0, len(made))
	for _, x := range made {
		out = append(out, api.Entry{Path: x.Path, Digest: x.New})
	}
	return out, api.OK
}

// Compose returns the changes that have the effect of a followed by b.
func Compose(a, b []api.Change) ([]api.Change, api.Errno) {
	if !validChanges(a) || !validChanges(b) {
		return nil, api.ErrInvalid
	}
	l, ok := follow(a, b)
	if !ok {
		return nil, api.ErrMismatch
	}
	if len(l) > maxChanges {
		return nil, api.ErrLimit
	}
	return l, api.OK
}

// Invert returns the changes that undo those of l.
func Invert(l []api.Change) ([]api.Change, api.Errno) {
	if !validChanges(l) {
		return nil, api.ErrInvalid
	}
	return inverse(l), api.OK
}

// maxChanges is enough for the changes between any two snapshots.
const maxChanges = 2 * api.MaxEntries

// validChanges reports whether l is a valid list of changes.
func validChanges(l []api.Change) bool {
	return len(l) <= maxChanges && !slices.ContainsFunc(l, unfit) && ascending(l, changePath)
}

func changePath(x api.Change) string { return x.Path }

// unfit reports whether no valid list has the change x.
func unfit(x api.Change) bool { return idle(x) || !pattern.Path(x.Path) }

// idle reports whether x changes nothing.
func idle(x api.Change) bool { return x.Old == x.New }

// needsFile reports whether x is only for what already has its path.
func needsFile(x api.Change) bool { return x.Old != api.Digest{} }

// creations returns the changes from no files to s.
func creations(s []api.Entry) []api.Change {
	l := make([]api.Change, 0, len(s))
	for _, x := range s {
		l = append(l, api.Change{Path: x.Path, New: x.Digest})
	}
	return l
}

func inverse(l []api.Change) []api.Change {
	out := make([]api.Change, 0, len(l))
	for _, x := range l {
		out = append(out, api.Change{Path: x.Path, Old: x.New, New: x.Old})
	}
	return out
}

// follow returns the changes that have the effect of a followed by b, however many; false if a leaves something else at a path than b changes there.
func follow(a, b []api.Change) ([]api.Change, bool) {
	var l []api.Change
	for x, y := range sideBySide(a, b) {
		if x.New != y.Old {
			return nil, false
		}
		if z := (api.Change{Path: x.Path, Old: x.Old, New: y.New}); !idle(z) {
			l = append(l, z)
		}
	}
	return l, true
}

// sideBySide yields for each path of a or b, in ascending order, its change in a and its change in b. A list that does not have the path keeps there what the other list leaves or finds.
func sideBySide(a, b []api.Change) iter.Seq2[api.Change, api.Change] {
	return func(yield func(x, y api.Change) bool) {
		for i, j := 0, 0; i < len(a) || j < len(b); {
			var x, y api.Change
			switch {
			case j == len(b) || i < len(a) && a[i].Path < b[j].Path:
				x, y = a[i], kept(a[i].Path, a[i].New)
				i++
			case i == len(a) || b[j].Path < a[i].Path:
				x, y = kept(b[j].Path, b[j].Old), b[j]
				j++
			default:
				x, y = a[i], b[j]
				i++
				j++
			}
			if !yield(x, y) {
				return
			}
		}
	}
}

func kept(path string, d api.Digest) api.Change { return api.Change{Path: path, Old: d, New: d} }
