package pattern_test

import (
	"regexp"
	"slices"
	"strings"
	"testing"

	"admission/api"
	"admission/pattern"
)

// long returns n letters.
func long(n int) string { return strings.Repeat("a", n) }

// every calls visit with every text of at most n bytes of alphabet, shorter ones first.
func every(alphabet string, n int, visit func(string)) {
	last := []string{""}
	for range n {
		var next []string
		for _, s := range last {
			visit(s)
			for i := range len(alphabet) {
				next = append(next, s+alphabet[i:i+1])
			}
		}
		last = next
	}
	for _, s := range last {
		visit(s)
	}
}

// texts returns every text of at most n bytes of alphabet.
func texts(alphabet string, n int) []string {
	var l []string
	every(alphabet, n, func(s string) { l = append(l, s) })
	return l
}

// pathForm describes short paths, byte by byte.
var pathForm = func() *regexp.Regexp {
	const component = `(?:[^/.\x00][^/\x00]*|\.[^/.\x00][^/\x00]*|\.\.[^/\x00]+)`
	return regexp.MustCompile(`(?s)\A` + component + `(?:/` + component + `)*\z`)
}()

// shortPaths returns the paths among the texts of at most n bytes of alphabet.
func shortPaths(alphabet string, n int) []string {
	var l []string
	every(alphabet, n, func(s string) {
		if pathForm.MatchString(s) {
			l = append(l, s)
		}
	})
	return l
}

// samplePaths returns paths of all sorts.
func samplePaths() []string {
	return []string{
		"a", "Z", "0", " ", "\n", "~", "%", "\\", "*", "**", "?", "\x01", "\x7f", "\xff", "\xc3", "ä", "a b",
		"a/b", "a/b/c/d/e/f", "a/a/a", " / ", "*/**/?", "\\/\\", "a\\", "ä/ö/ü", "src/main.c", "C:\\x",
		"...", "....", ".../...", ".a", "a.", "..a", "a..", ".a.", "a..b", ". ", " .", ".. ", ".\\", "a./b", "..a/b", "a/...", "a/.b", "a/..b/c.",
		long(api.MaxPath), long(api.MaxPath-2) + "/b", "a/" + long(api.MaxPath-2), strings.Repeat("a/", api.MaxPath/2-1) + "bc",
		strings.Repeat("ä", api.MaxPath/2), strings.Repeat(".", api.MaxPath), strings.Repeat("\xff", api.MaxPath), strings.Repeat("*", api.MaxPath),
	}
}

// noPaths returns texts of all sorts that are no paths.
func noPaths() []string {
	return []string{
		"", "/", "//", "///", ".", "..", "./", "../", "/.", "/..", "./.", "../..", "././.",
		"/a", "a/", "//a", "a//", "a//b", "a/b//c", "a/b/", "/a/b", "a///b",
		"./a", "a/.", "a/./b", "../a", "a/..", "a/../b", "a/b/..", "../../a", "a/b/./c", ".../..", "./...",
		"\x00", "a\x00", "\x00a", "a\x00b", "a/\x00", "a/b\x00/c", ".\x00", "..\x00", long(api.MaxPath-1) + "\x00",
		long(api.MaxPath + 1), long(api.MaxPath-1) + "/b", strings.Repeat("a/", api.MaxPath/2) + "b", strings.Repeat("a/", api.MaxPath/2),
		strings.Repeat("ä", api.MaxPath/2) + "a", strings.Repeat("ä", api.MaxPath/2+1), strings.Repeat(".", api.MaxPath+1),
		long(1 << 20), strings.Repeat("/", 1<<20), strings.Repeat("a/", 1<<20), strings.Repeat("\x00", 1<<20),
	}
}

// Promise 3.1: the lengths, the components and the byte 0.
func TestPaths(t *testing.T) {
	for _, s := range samplePaths() {
		if !pattern.Path(s) {
			t.Errorf("%.60q is no path", s)
		}
	}
	for _, s := range noPaths() {
		if pattern.Path(s) {
			t.Errorf("%.60q is a path", s)
		}
	}
}

// Promise 3.1: every byte, as a component, beside others, and at the end of the longest paths.
func TestEveryByteOfPaths(t *testing.T) {
	for c := range 256 {
		s := string([]byte{byte(c)})
		within := c != 0
		alone := within && c != '/' && c != '.'
		side := within && c != '/'
		for _, x := range []struct {
			path string
			want bool
		}{
			{s, alone}, {"a/" + s, alone}, {s + "/a", alone}, {"a/" + s + "/a", alone},
			{"a" + s, side}, {s + "a", side}, {"a/b" + s, side}, {s + "a/b", side}, {"a" + s + "a", within},
			{long(api.MaxPath-1) + s, side}, {long(api.MaxPath) + s, false},
		} {
			if got := pattern.Path(x.path); got != x.want {
				t.Errorf("Path(%.60q): %t", x.path, got)
			}
		}
	}
}

// Promise 3.1: every short text is a path or not as an independent description says.
func TestEveryShortPath(t *testing.T) {
	good := 0
	every("a./\x00\\", 6, func(s string) {
		want := pathForm.MatchString(s)
		if got := pattern.Path(s); got != want {
			t.Errorf("Path(%q): %t", s, got)
		}
		if want {
			good++
		}
	})
	if good < 1000 {
		t.Errorf("only %d texts are paths", good)
	}
}

// relocate checks what Relocate returns; "" stands for false.
func relocate(t *testing.T, from, to, path, want string) {
	t.Helper()
	if got, ok := pattern.Relocate(from, to, path); got != want || ok != (want != "") {
		t.Errorf("Relocate(%.40q, %.40q, %.40q): %.40q %t, want %.40q", from, to, path, got, ok, want)
	}
}

// Promise 3.5: paths that lie under a directory, the example of the chapter among them.
func TestRelocate(t *testing.T) {
	for _, x := range []struct{ from, to, path, want string }{
		{"a", "", "a/b", "b"},
		{"", "", "a", "a"},
		{"", "", "a/b/c", "a/b/c"},
		{"", "x", "a", "x/a"},
		{"", "x/y", "a/b", "x/y/a/b"},
		{"a", "x", "a/b", "x/b"},
		{"a", "x/y", "a/b/c", "x/y/b/c"},
		{"a/b", "x", "a/b/c", "x/c"},
		{"a/b", "", "a/b/c/d", "c/d"},
		{"a", "a", "a/b", "a/b"},
		{"a", "", "a/a/a", "a/a"},
		{"a", "a/a", "a/a", "a/a/a"},
		{"a/a", "a", "a/a/a", "a/a"},
		{"*", "?", "*/\\", "?/\\"},
		{"...", "..a", ".../.a", "..a/.a"},
		{" ", "\n", " / ", "\n/ "},
		{"ä", "\xff", "ä/ö", "\xff/ö"},
		{"a\\", "b\\", "a\\/c", "b\\/c"},
	} {
		relocate(t, x.from, x.to, x.path, x.want)
	}
}

// Promise 3.5: paths that do not lie under a directory.
func TestRelocateOfOtherPaths(t *testing.T) {
	for _, x := range []struct{ from, path string }{
		{"a", "a"}, {"a/b", "a/b"}, {"a", "b"}, {"a", "ab"}, {"a", "ab/c"}, {"ab", "a/b"}, {"a/b", "a"}, {"a/b", "a/bc"}, {"a/b", "a/bc/d"}, {"a/b", "a/c/b/d"},
		{"b", "a/b"}, {"b", "a/b/c"}, {"a", "A/b"}, {"*", "a/b"}, {"?", "a/b"}, {"a", "\\a/b"}, {"\\a", "a/b"}, {long(api.MaxPath), long(api.MaxPath)},
	} {
		for _, to := range []string{"", "x", "a", x.from} {
			relocate(t, x.from, to, x.path, "")
		}
	}
}

// Promise 3.5: arguments that are no directories or no paths.
func TestRelocateOfInvalid(t *testing.T) {
	for _, s := range noPaths() {
		for _, dir := range []string{"", "a"} {
			relocate(t, dir, "", s, "")
			relocate(t, dir, "a", s, "")
			relocate(t, dir, dir, dir+"/"+s, "")
		}
		if s == "" {
			continue
		}
		relocate(t, s, "", "a/b", "")
		relocate(t, s, "", s+"/b", "")
		relocate(t, s, "", s+"b", "")
		relocate(t, s, s, "a/b", "")
		relocate(t, "a", s, "a/b", "")
		relocate(t, "", s, "a/b", "")
	}
}

// Promise 3.5: results that have as many bytes as a path may have, and more.
func TestRelocateAtLimit(t *testing.T) {
	for n := range 20 {
		rest := long(n + 1)
		full := long(api.MaxPath - len(rest) - 1)
		relocate(t, "", full, rest, full+"/"+rest)
		relocate(t, "b", full, "b/"+rest, full+"/"+rest)
		relocate(t, "", full+"a", rest, "")
		relocate(t, "b", full+"a", "b/"+rest, "")
		relocate(t, full, "", full+"/"+rest, rest)
		relocate(t, full, full, full+"/"+rest, full+"/"+rest)
		relocate(t, full, full+"a", full+"/"+rest, "")
		relocate(t, "", "", full+"/"+rest, full+"/"+rest)
		relocate(t, "", "b", full+"/"+rest, "")
	}
	relocate(t, "", long(api.MaxPath), "a", "")
	relocate(t, "a", long(api.MaxPath), "a/a", "")
	relocate(t, "", "a", long(api.MaxPath-2), "a/"+long(api.MaxPath-2))
	relocate(t, "", "a", long(api.MaxPath-1), "")
	relocate(t, "a", "", "a/"+long(api.MaxPath-2), long(api.MaxPath-2))
}

// components returns the components of a path or a directory.
func components(s string) []string {
	if s == "" {
		return nil
	}
	return strings.Split(s, "/")
}

// Promise 3.5: among all short texts, a path is relocated exactly if its first components, but not all of them, are those of the directory; and it can be moved back.
func TestEveryShortRelocation(t *testing.T) {
	all := texts("ab/.", 3)
	paths := shortPaths("ab/", 5)
	directory := func(s string) bool { return s == "" || pathForm.MatchString(s) }
	for _, from := range all {
		for _, to := range all {
			ok := directory(from) && directory(to)
			before, after := components(from), components(to)
			for _, path := range paths {
				names := components(path)
				if !ok || len(before) >= len(names) || !slices.Equal(before, names[:len(before)]) {
					relocate(t, from, to, path, "")
					continue
				}
				want := strings.Join(slices.Concat(after, names[len(before):]), "/")
				relocate(t, from, to, path, want)
				relocate(t, to, from, want, path)
			}
		}
	}
}
