package pattern_test

import (
	"regexp"
	"strings"
	"sync"
	"testing"

	"admission/api"
	"admission/pattern"
)

// patternForm describes short patterns, byte by byte, and patternPart their parts.
var (
	patternForm = regexp.MustCompile(`(?s)\A(?:[^\\\x00]|\\[^\x00])+\z`)
	patternPart = regexp.MustCompile(`(?s)\\.|\*\*|.`)
)

// meaning returns a regular expression for the texts of which the short pattern p says that they are concatenations.
func meaning(p string) *regexp.Regexp {
	return regexp.MustCompile(`(?s)\A` + patternPart.ReplaceAllStringFunc(p, func(part string) string {
		switch part {
		case "**":
			return `.*`
		case "*":
			return `[^/]*`
		case "?":
			return `[^/]`
		}
		return regexp.QuoteMeta(part[len(part)-1:])
	}) + `\z`)
}

// samplePatterns returns patterns of all sorts.
func samplePatterns() []string {
	return []string{
		"a", "/", "//", ".", "..", " ", "\n", "\xff", "ä", "?", "*", "**", "***", "****", "*****", "*?*", "**/**", "a//b", "/a/", "./..", "[a-z]", "{a,b}",
		`\a`, `\\`, `\\\\`, `\*`, `\**`, `\***`, `*\*`, `**\*`, `*\\`, `\?`, `\/`, `\.`, "\\\xff", "\\\n", `a\b\c`, `\\a`, `a\\`, `\*\\`, `\\\*`,
		long(api.MaxPattern), strings.Repeat("*", api.MaxPattern), strings.Repeat("?", api.MaxPattern), strings.Repeat("/", api.MaxPattern),
		strings.Repeat(`\`, api.MaxPattern), strings.Repeat(`\*`, api.MaxPattern/2), long(api.MaxPattern-2) + `\\`, strings.Repeat("ä", api.MaxPattern/2),
	}
}

// noPatterns returns texts of all sorts that are no patterns.
func noPatterns() []string {
	return []string{
		"", `\`, `\\\`, `\\\\\`, `a\`, `a\\\`, `*\`, `**\`, `\*\`, `a/\`, `ä\`,
		"\x00", "a\x00", "\x00a", "a\x00b", "\\\x00", "a\\\x00b", "*\x00", "**\x00**", long(api.MaxPattern-1) + "\x00",
		long(api.MaxPattern + 1), strings.Repeat("*", api.MaxPattern+1), strings.Repeat(`\*`, api.MaxPattern/2) + "a", strings.Repeat(`\a`, api.MaxPattern/2+1),
		strings.Repeat(`\`, api.MaxPattern-1), strings.Repeat(`\`, api.MaxPattern+1), strings.Repeat(`\`, api.MaxPattern+2), long(api.MaxPattern-1) + `\`, long(api.MaxPattern-1) + `\\`,
		long(1 << 20), strings.Repeat("*", 1<<20), strings.Repeat(`\`, 1<<20), strings.Repeat("\x00", 1<<20),
	}
}

// Promise 3.2: the lengths, the byte 0 and backslashes at the end.
func TestValid(t *testing.T) {
	for _, p := range samplePatterns() {
		if !pattern.Valid(p) {
			t.Errorf("%.60q is no pattern", p)
		}
	}
	for _, p := range noPatterns() {
		if pattern.Valid(p) {
			t.Errorf("%.60q is a pattern", p)
		}
	}
	for n := range api.MaxPattern + 5 {
		if got, want := pattern.Valid(strings.Repeat(`\`, n)), n > 0 && n <= api.MaxPattern && n%2 == 0; got != want {
			t.Errorf("%d backslashes: %t", n, got)
		}
	}
}

// Promises 3.2 and 3.3: every short text is a pattern or not, and matches short texts, as an independent description says.
func TestEveryShortPattern(t *testing.T) {
	all := texts("a/.*", 5)
	matches := 0
	every(`a/.*?\`, 4, func(p string) {
		valid := patternForm.MatchString(p)
		if got := pattern.Valid(p); got != valid {
			t.Errorf("Valid(%q): %t", p, got)
		}
		var form *regexp.Regexp
		if valid {
			form = meaning(p)
		}
		for _, s := range all {
			want := valid && pathForm.MatchString(s) && form.MatchString(s)
			if got := pattern.Match(p, s); got != want {
				t.Errorf("Match(%q, %q): %t", p, s, got)
			}
			if want {
				matches++
			}
		}
	})
	if matches < 10000 {
		t.Errorf("only %d matches", matches)
	}
}

// Promises 3.2 and 3.3: every byte as a pattern, behind a backslash, and under a pattern.
func TestEveryByteOfPatterns(t *testing.T) {
	for c := range 256 {
		p := string([]byte{byte(c)})
		for d := range 256 {
			s := string([]byte{byte(d)})
			path := d != 0 && d != '/' && d != '.'
			check(t, p, s, path && (c == d && c != '\\' || c == '*' || c == '?'))
			check(t, `\`+p, s, path && c == d)
			check(t, "a"+p+"b", "a"+s+"b", d != 0 && (c == d && c != '\\' || d != '/' && (c == '*' || c == '?')))
			check(t, `a\`+p+"b", "a"+s+"b", d != 0 && c == d)
		}
	}
	for d := range 256 {
		s := "a" + string([]byte{byte(d)}) + "b"
		check(t, "a?b", s, d != 0 && d != '/')
		check(t, "a*b", s, d != 0 && d != '/')
		check(t, "a**b", s, d != 0)
		check(t, "***", s, d != 0)
	}
}

// check checks what Match returns.
func check(t *testing.T, p, path string, want bool) {
	t.Helper()
	if got := pattern.Match(p, path); got != want {
		t.Errorf("Match(%.60q, %.60q): %t", p, path, got)
	}
}

// Promise 3.3: patterns and paths, the examples of the chapter among them.
func TestMatch(t *testing.T) {
	for _, x := range []struct {
		p       string
		matches string
		others  string
	}{
		{"src/*.c", "src/a.c src/.c src/ab.c.c src/*.c", "src/x/a.c src/a.h a.c src asrc/a.c src/a.cc src/x/.c"},
		{"src/**", "src/a src/x/a.c src/...", "src srcs/a src/ src// asrc/a"},
		{"**/a", "x/a x/y/a a/a", "a x/ab /a x/aa a/b"},
		{"**a", "a x/a aa x/aa", "b a/b ab"},
		{"*", "a abc ... .a * ** ä", "a/b a/ /a . .. a/b/c"},
		{"**", "a a/b a/b/c * */*", "/ a/ /a a//b . .. a/./b"},
		{"***", "a a/b a/b/c", "a/ a//b"},
		{"*/**", "a/b a/b/c", "a a/ /b"},
		{"**/*", "a/b a/b/c", "a a/ /b"},
		{"***/*", "a/b a/b/c", "a"},
		{"a***b", "ab axb a/b a/x/b abb", "a b abx xab"},
		{"a**/**b", "a/b ax/b a/xb a/x/b ax/y/zb", "ab axb"},
		{"**/**/c", "a/b/c a/b/d/c", "a/c c a/b/cc"},
		{"?", "a * ? ~", "ab / . ä a/b"},
		{"??", "ab ä .a a.", "a abc .. a/ /a"},
		{"???", "abc ... a.b äa", "a/b a ab abcd"},
		{"a?b", "axb a?b a.b", "ab a/b axxb"},
		{"?*", "a ab abc", "a/b /"},
		{"*a*b*", "ab xaybz aab bab", "xbyaz a/b ba a b"},
		{`\*`, "*", "a \\* **"},
		{`\**`, "* *a **", "a */b \\*"},
		{`\***`, "* *a */b **/*", "a a/b"},
		{`*\*`, "* a* **", "a *a a/*"},
		{`**\*`, "* a* a/* **", "a a/b"},
		{`*\?`, "? a? ??", "a ab a/?"},
		{`\\`, "\\", "\\\\ a"},
		{`\\*`, "\\ \\a \\* \\\\", "* a"},
		{`\a`, "a", "\\a b"},
		{`a\/b`, "a/b", "a\\/b a/c"},
		{`\.\.\.`, "...", ".. aaa \\.\\.\\."},
		{`\?`, "?", "a"},
		{"[a-c]", "[a-c]", "a b -"},
		{"{a,b}", "{a,b}", "a b"},
		{"a.c", "a.c", "abc"},
		{"^a$", "^a$", "a"},
		{"A", "A", "a"},
		{"a", "a", "b aa a/a A ab ba"},
		{"a*", "a aa ab", "b ba a/a"},
		{"*a", "a aa ba", "b ab a/a"},
		{"**.**", "a.b .a a. a/b.c a.b/c ...", "a a/b . .."},
		{"é?", "éa", "é éé"},
	} {
		for path := range strings.FieldsSeq(x.matches) {
			check(t, x.p, path, true)
		}
		for path := range strings.FieldsSeq(x.others) {
			check(t, x.p, path, false)
		}
	}
}

// Promise 3.3: texts that no pattern matches, and texts that match no path.
func TestMatchOfInvalid(t *testing.T) {
	for _, s := range noPaths() {
		check(t, "**", s, false)
		check(t, "*", s, false)
		check(t, s, s, false)
		check(t, "?"+s, s, false)
		for _, p := range samplePatterns() {
			check(t, p, s, false)
		}
		for _, p := range noPatterns() {
			check(t, p, s, false)
		}
	}
	for _, p := range noPatterns() {
		for _, s := range samplePaths() {
			check(t, p, s, false)
		}
	}
	check(t, `a\`, "a", false)
	check(t, `a\`, `a\`, false)
	check(t, `*\`, "a", false)
}

// Promise 3.3: the longest patterns and paths.
func TestMatchAtLimits(t *testing.T) {
	const half = api.MaxPath / 2
	for _, x := range []struct {
		p, path string
		want    bool
	}{
		{long(api.MaxPattern), long(api.MaxPath), true},
		{long(api.MaxPattern), long(api.MaxPath - 1), false},
		{long(api.MaxPattern - 1), long(api.MaxPath), false},
		{long(api.MaxPattern-1) + "*", long(api.MaxPath), true},
		{long(api.MaxPattern-1) + "*", long(api.MaxPath - 1), true},
		{long(api.MaxPattern-1) + "?", long(api.MaxPath - 1), false},
		{"**", long(api.MaxPath), true},
		{"**", long(api.MaxPath + 1), false},
		{long(api.MaxPattern-1) + "**", long(api.MaxPath), false},
		{strings.Repeat("?", api.MaxPattern), strings.Repeat("ä", half), true},
		{strings.Repeat("?", api.MaxPattern), strings.Repeat("a/", half-1) + "ab", false},
		{strings.Repeat("?/", half-1) + "??", strings.Repeat("a/", half-1) + "ab", true},
		{strings.Repeat("*", api.MaxPattern), strings.Repeat("a/", half-1) + "ab", true},
		{strings.Repeat("*", api.MaxPattern), "a", true},
		{strings.Repeat(`\a`, half), long(half), true},
		{strings.Repeat(`\a`, half), long(half + 1), false},
		{strings.Repeat("*a", half), long(api.MaxPath), true},
		{strings.Repeat("*a", half), long(half), true},
		{strings.Repeat("*a", half), long(half - 1), false},
		{strings.Repeat("*a", half-1) + "b", long(api.MaxPath), false},
		{strings.Repeat("**a", 66), long(api.MaxPath), true},
		{strings.Repeat("**a", 66) + "b", long(api.MaxPath), false},
		{strings.Repeat("**/", 66) + "b", strings.Repeat("a/", half-1) + "ab", false},
		{strings.Repeat("**/", 66) + "ab", strings.Repeat("a/", half-1) + "ab", true},
		{strings.Repeat("**/*", 50), strings.Repeat("a/", half-1) + "ab", true},
		{strings.Repeat("*/", half-1) + "**", strings.Repeat("a/", half-1) + "ab", true},
		{strings.Repeat("*/", half) + "**", strings.Repeat("a/", half-1) + "ab", false},
	} {
		check(t, x.p, x.path, x.want)
	}
}

// Promise 3.4: paths with and without bytes that are special in patterns.
func TestLiteral(t *testing.T) {
	for _, x := range []struct{ path, want string }{
		{"a", "a"}, {"a/b.c", "a/b.c"}, {"*", `\*`}, {"**", `\*\*`}, {"?", `\?`}, {`\`, `\\`}, {`\\`, `\\\\`}, {`\*`, `\\\*`}, {`a*\?`, `a\*\\\?`},
		{"*/?/\\", `\*/\?/\\`}, {`a\`, `a\\`}, {"[a]{b}^$.+|()", "[a]{b}^$.+|()"}, {" \n\xffä", " \n\xffä"}, {"...", "..."},
		{long(api.MaxPath), long(api.MaxPath)}, {strings.Repeat("*", api.MaxPath), strings.Repeat(`\*`, api.MaxPath)}, {strings.Repeat(`\`, api.MaxPath), strings.Repeat(`\`, 2*api.MaxPath)},
	} {
		if got := pattern.Literal(x.path); got != x.want {
			t.Errorf("Literal(%.60q): %.60q, want %.60q", x.path, got, x.want)
		}
	}
	for _, s := range noPaths() {
		if got := pattern.Literal(s); got != "" {
			t.Errorf("Literal(%.60q): %.60q", s, got)
		}
	}
}

// Promise 3.4: every byte.
func TestEveryByteOfLiterals(t *testing.T) {
	for c := 1; c < 256; c++ {
		path := "a" + string([]byte{byte(c)}) + "b"
		want := path
		if strings.IndexByte(`\*?`, byte(c)) >= 0 {
			want = `a\` + path[1:]
		}
		if got := pattern.Literal(path); got != want {
			t.Errorf("Literal(%q): %q, want %q", path, got, want)
		}
	}
}

// Promise 3.4: the literal of a path matches this path and no other one, where it is a pattern.
func TestLiteralsMatchOnePath(t *testing.T) {
	paths := shortPaths(`a/.*?\`, 4)
	for i, path := range paths {
		p := pattern.Literal(path)
		for j, other := range paths {
			// Each path is compared with itself, with its neighbours, and with some of all others.
			if i-j < 10 && j-i < 10 || (i+j)%7 == 0 {
				check(t, p, other, i == j)
			}
		}
	}
	for n := api.MaxPattern/2 - 3; n < api.MaxPattern/2+3; n++ {
		path := strings.Repeat("*", n)
		p := pattern.Literal(path)
		if want := strings.Repeat(`\*`, n); p != want {
			t.Errorf("%d: %q", n, p)
		}
		fits := 2*n <= api.MaxPattern
		if pattern.Valid(p) != fits || pattern.Match(p, path) != fits {
			t.Errorf("%d: %t %t", n, pattern.Valid(p), pattern.Match(p, path))
		}
	}
}

// Rules R3 and R4: calls at the same time and one after the other have the same results.
func TestCallsAreIndependent(t *testing.T) {
	first, _ := pattern.Overlap("**?*.c*", "*a**/?*")
	var group sync.WaitGroup
	for range 8 {
		group.Go(func() {
			for range 200 {
				check(t, "src/*.c", "src/a.c", true)
				check(t, "src/*.c", "src/x/a.c", false)
				relocate(t, "a", "b/c", "a/d", "b/c/d")
				if got, ok := pattern.Overlap("**?*.c*", "*a**/?*"); !ok || got != first {
					t.Errorf("%q %t, and before %q", got, ok, first)
				}
				if got, ok := pattern.Overlap("a*", "b*"); ok || got != "" {
					t.Errorf("%q %t", got, ok)
				}
			}
		})
	}
	group.Wait()
}
