package pattern

import (
	"strings"

	"admission/api"
)

const slash = '/'

// Path reports whether s is a path.
func Path(s string) bool {
	if len(s) > api.MaxPath || strings.IndexByte(s, 0) >= 0 {
		return false
	}
	for name := range strings.SplitSeq(s, string(slash)) {
		switch name {
		case "", ".", "..":
			return false
		}
	}
	return true
}

// Relocate moves path from the directory from to the directory to.
func Relocate(from, to, path string) (string, bool) {
	if !directory(from) || !directory(to) || !Path(path) {
		return "", false
	}
	rest, ok := strings.CutPrefix(path, inside(from))
	moved := inside(to) + rest
	if !ok || !Path(moved) {
		return "", false
	}
	return moved, true
}

func directory(s string) bool { return s == "" || Path(s) }

// inside returns what all paths that lie under the directory dir begin with.
func inside(dir string) string {
	if dir == "" {
		return ""
	}
	return dir + string(slash)
}
