package pattern_test

import (
	"math/rand/v2"
	"strings"
	"testing"

	"admission/api"
	"admission/pattern"
)

// overlap returns whether Overlap finds a path, in both orders, and checks that both patterns match it.
func overlap(t *testing.T, p, q string) bool {
	t.Helper()
	path, ok := pattern.Overlap(p, q)
	back, okBack := pattern.Overlap(q, p)
	if ok != okBack {
		t.Errorf("%q and %q: %t, and in the other order %t", p, q, ok, okBack)
	}
	for _, s := range []string{path, back} {
		if found := s != ""; found != ok || found && !(pattern.Match(p, s) && pattern.Match(q, s)) {
			t.Errorf("%q and %q: %q %t", p, q, s, ok)
		}
	}
	return ok
}

// Promise 3.6: patterns with and without a common path, the examples of the chapter among them.
func TestOverlap(t *testing.T) {
	for _, x := range []struct {
		p, q string
		want bool
	}{
		{"a*", "*b", true}, {".", "*", false},
		{"a", "a", true}, {"a", "b", false}, {"a", "?", true}, {"a", "*", true}, {"a", "**", true}, {"a", "ab", false}, {"a", `\a`, true},
		{"*", "*", true}, {"**", "**", true}, {"*", "**", true}, {"***", "?", true}, {"?", "?", true}, {"?", "??", false}, {"?", "*", true},
		{"a*", "b*", false}, {"*a", "*b", false}, {"a*b", "ac*", true}, {"a*b", "*c*", true}, {"a*b", "b*a", false}, {"*a*", "*b*", true}, {"ab*", "*ba", true},
		{"a/*", "*/b", true}, {"a/*", "*", false}, {"a/b", "a*b", false}, {"a/b", "a**b", true}, {"a/b", "a?b", false}, {"a/**", "**/b", true}, {"a/*/c", "a/**", true},
		{"*/*", "*/*/*", false}, {"*/*", "**/*/*", false}, {"**/*", "*/**", true}, {"a/**/b", "a/b", false}, {"**/a/**", "b/**/b", true}, {"?/?", "**a**", true},
		{"src/**", "**/*.c", true}, {"src/*.c", "src/*.h", false}, {"src/a*", "src/*.c", true}, {"src/**", "doc/**", false}, {"src/**", "*.c", false},
		{`\*`, "?", true}, {`\*`, "*", true}, {`\*`, "a", false}, {`\**`, "a*", false}, {`\**`, `*\?`, true}, {`\\*`, `*\\`, true}, {`\\`, `\*`, false},
		{"ä*", "*ö", true}, {"ä", "??", true}, {"ä", "?", false}, {"\xc3?", "ä", true}, {"\xff*", "*\xfe", true}, {"\xff", "\xfe", false},
		{"x", "?", true}, {"x*", "*x", true}, {"[a-z]", "b", false}, {"{a,b}", "a", false},
	} {
		if got := overlap(t, x.p, x.q); got != x.want {
			t.Errorf("%q and %q: %t", x.p, x.q, got)
		}
	}
}

// Promise 3.6: patterns that match no path have no path in common with any pattern, not even with themselves.
func TestOverlapOfPatternsWithoutPaths(t *testing.T) {
	all := samplePatterns()
	for _, p := range []string{
		".", "..", "/", "//", "///", "/a", "a/", "a//b", "./a", "a/.", "a/./b", "../a", "a/..", "a/../b", "/*", "*/", "/**", "**/", "**//**", "*//*", "?//?",
		"*/.", "*/..", "./*", "../*", "**/.", "**/..", "./**", "../**", "**/./**", "**/../**", "*/./*", "?/../?", "/?", "?/", `\.`, `\.\.`, `\/`, `.\.`, `./\.`, `a\/\/b`, "**/./", "/.", "/..",
		"." + strings.Repeat("/**", 66), strings.Repeat("*/", 100), strings.Repeat("/", 200), strings.Repeat("?/", 99) + "..",
	} {
		for _, q := range append(all, p) {
			if overlap(t, p, q) {
				t.Errorf("%.60q and %.60q", p, q)
			}
		}
	}
}

// Promise 3.6: patterns that have sequences of bytes in common, but only such as are no paths.
func TestOverlapWithoutPaths(t *testing.T) {
	for _, x := range []struct {
		p, q string
		want bool
	}{
		{"?", `\.`, false}, {"?", "/", false}, {"??", `.*.`, false}, {"???", "*..", true}, {"???", "..*", true}, {"??", ".?", true}, {"*..", "..*", true}, {"?.", "*.", true},
		{"?/?", "./*", false}, {"?/?", "*/.", false}, {"?/?", "./?", false}, {"??/?", "../*", false}, {"?/??", "*/..", false}, {"???/?", "../*", false}, {"???/?", "..*/*", true}, {"??/?", "..*/*", false},
		{"**.", "?", false}, {"**.", "??", true}, {"*.", "*/.", false}, {"**/.**", "?/?", false}, {"**/.**", "?/??", true}, {"**/..**", "?/??", false}, {"**/..**", "?/???", true},
		{"a/**", "**/.", false}, {"a/**", "**/..", false}, {"a/**", "**/...", true}, {"a/**", "./**", false}, {"a**", "**/./**", false}, {"a/?/b", "**/./**", false}, {"a/??/b", "**/./**", false}, {"a/?/b", "**.**", false},
		{"a**", "**/", false}, {"a/**", "**/", false}, {"**/", "a/", false}, {"/**", "**a", false}, {"a**b", "**//**", false}, {"a/**/b", "a/**//b", false}, {"?**", "/**", false}, {"?**?", "*/*/", false},
		{"a/**b", "a**/?", true}, {"a/**/b", "a/?", false}, {"a/**/b", "a//b", false}, {"a/*b", "a//b", false}, {"a/*/b", "a//b", false}, {"a/*/b", "a/?/b", true}, {"*/*", "?", false}, {"*/*", "??", false}, {"*/*", "**?/?**", true},
		{"*/*", "/?**", false}, {"*/*", "**?/", false}, {"*/*", "a**b", true}, {"*.*", ".*", true}, {"*.", ".*", true}, {"*.*", ".", false}, {"*.*.", "..", false}, {"*.*.", "...", true}, {"*.*./a", "..*/a", true},
	} {
		if got := overlap(t, x.p, x.q); got != x.want {
			t.Errorf("%q and %q: %t", x.p, x.q, got)
		}
	}
}

// Promise 3.6: texts that are no patterns.
func TestOverlapOfInvalid(t *testing.T) {
	for _, p := range noPatterns() {
		for _, q := range append(samplePatterns(), "", p) {
			if overlap(t, p, q) {
				t.Errorf("%.60q and %.60q", p, q)
			}
		}
	}
}

// Promise 3.6: patterns whose shortest common path has any number of bytes, up to the limit and beyond it.
func TestOverlapAtLimit(t *testing.T) {
	a, b := long, func(n int) string { return strings.Repeat("b", n) }
	for _, x := range []struct {
		name string
		make func(n int) (string, string) // patterns whose shortest common path has n bytes, if paths may be so long
	}{
		{"one behind the other", func(n int) (string, string) { return a(n-50) + "*", "*" + b(50) }},
		{"one directory behind the other", func(n int) (string, string) { return a(n-60) + "/**", "**/" + b(59) }},
		{"many sequences", func(n int) (string, string) {
			return strings.Repeat("*aaaa", 20) + "*", strings.Repeat("*bbbbb", 20) + "*" + b(n-180)
		}},
		{"any bytes", func(n int) (string, string) { return strings.Repeat("?", 100) + "**", "**/" + a(n-101) }},
		{"a first component that is not empty", func(n int) (string, string) { return "*/" + a(100) + "*", "**" + b(n-102) }},
		{"a first component other than a dot", func(n int) (string, string) { return "*./" + a(100) + "*", "**" + b(n-103) }},
		{"a first component other than two dots", func(n int) (string, string) { return "..*/" + a(100) + "*", "**" + b(n-104) }},
		{"a last component that is not empty", func(n int) (string, string) { return a(100) + "**", "*" + b(n-102) + "/**" }},
		{"a last component other than a dot", func(n int) (string, string) { return a(100) + "**", "*" + b(n-103) + "/.*" }},
		{"a last component other than two dots", func(n int) (string, string) { return a(100) + "**", "*" + b(n-104) + "/*.." }},
		{"a component in the middle", func(n int) (string, string) { return a(100) + "/*/**", "**/" + b(n-103) }},
	} {
		for n := 190; n < 211; n++ {
			p, q := x.make(n)
			if !pattern.Valid(p) || !pattern.Valid(q) {
				t.Fatalf("%s, %d bytes: %q and %q", x.name, n, p, q)
			}
			if got := overlap(t, p, q); got != (n <= api.MaxPath) {
				t.Errorf("%s, %d bytes: %t", x.name, n, got)
			}
			if path, ok := pattern.Overlap(p, q); ok && len(path) < n {
				t.Errorf("%s, %d bytes: %q", x.name, n, path)
			}
		}
	}
}

// Promise 3.6: the example of the chapter, and the longest patterns.
func TestOverlapOfLongPatterns(t *testing.T) {
	for _, x := range []struct {
		p, q string
		want bool
	}{
		{long(150) + "*", "*" + strings.Repeat("b", 150), false},
		{long(150) + "*", "*" + strings.Repeat("b", 50), true},
		{long(150) + "*", "*" + long(150), true},
		{long(200), "**", true},
		{long(200), long(200), true},
		{long(200), long(199), false},
		{long(200), long(199) + "b", false},
		{long(199) + "*", long(199) + "?", true},
		{strings.Repeat("?", 200), "**b", true},
		{strings.Repeat("?", 200), "**/b", false},
		{strings.Repeat("?", 199) + "/", "**", false},
		{strings.Repeat("?", 198) + "/?", "**/**", true},
		{strings.Repeat("?", 198) + "/?", "**/.", false},
		{strings.Repeat("?", 200), strings.Repeat("*", 200), true},
		{strings.Repeat("*", 200), strings.Repeat("*", 200), true},
		{strings.Repeat("*", 199) + "a", strings.Repeat("*", 199) + "b", false},
		{strings.Repeat("*", 199) + "a", "b" + strings.Repeat("*", 199), true},
		{strings.Repeat("*", 198) + "/.", strings.Repeat("*", 200), false},
		{strings.Repeat(`\a`, 100), strings.Repeat("a", 100), true},
		{strings.Repeat(`\a`, 100), strings.Repeat("a", 101), false},
		{strings.Repeat("*a", 99) + "*", strings.Repeat("*b", 100), true},
		{strings.Repeat("*a", 100), strings.Repeat("*b", 100), false},
		{strings.Repeat("*a", 99) + "*", strings.Repeat("*b", 99) + "*/", false},
		{strings.Repeat("*a", 99) + "*", strings.Repeat("*bb", 66) + "*", false},
		{strings.Repeat("*a", 68) + "*", strings.Repeat("*bb", 66) + "*", true},
		{strings.Repeat("*a", 69) + "*", strings.Repeat("*bb", 66) + "*", false},
		{strings.Repeat("**a", 66), strings.Repeat("b**", 66), true},
		{strings.Repeat("**a", 66), strings.Repeat("**b", 66), false},
		{strings.Repeat("**/a", 50), strings.Repeat("**/b", 50), false},
		{strings.Repeat("**/a", 50) + "**", strings.Repeat("**/b", 49) + "**", false},
		{strings.Repeat("**/a", 49) + "**", strings.Repeat("**/b", 49) + "**", true},
		{strings.Repeat("**.", 66) + "/", strings.Repeat("**.", 66), false},
		{strings.Repeat("**.", 66), strings.Repeat("**/.", 50), false},
		{strings.Repeat("**.", 66), strings.Repeat("**/.", 49) + "..", true},
	} {
		if got := overlap(t, x.p, x.q); got != x.want {
			t.Errorf("%.60q and %.60q: %t", x.p, x.q, got)
		}
	}
}

// matched returns a set of paths: the bit of each path that p matches.
func matched(p string, paths []string) []uint64 {
	set := make([]uint64, len(paths)/64+1)
	for i, path := range paths {
		if pattern.Match(p, path) {
			set[i/64] |= 1 << (i % 64)
		}
	}
	return set
}

// meet reports whether two sets have an element in common.
func meet(a, b []uint64) bool {
	for i := range a {
		if a[i]&b[i] != 0 {
			return true
		}
	}
	return false
}

// Promise 3.6: any two short patterns overlap if there is a short path that both match; otherwise only if there is a longer one.
func TestEveryShortOverlap(t *testing.T) {
	for _, x := range []struct {
		patterns, paths string
		most, longest   int
	}{
		{`ab/.*?\`, `ab/.*?\`, 3, 5},
		{"a./*", "a./", 4, 8},
	} {
		all := texts(x.patterns, x.most)
		paths := shortPaths(x.paths, x.longest)
		var sets [][]uint64
		for _, p := range all {
			sets = append(sets, matched(p, paths))
		}
		for i, p := range all {
			for j, q := range all[:i+1] {
				got := overlap(t, p, q)
				want := meet(sets[i], sets[j])
				if path, _ := pattern.Overlap(p, q); want && !got || got && !want && len(path) <= x.longest {
					t.Errorf("%q and %q: %q %t", p, q, path, got)
				}
			}
		}
	}
}

// Promise 3.7: a pattern overlaps the literal of a path exactly if it matches the path, and the path that they have in common is this one.
func TestOverlapOfLiterals(t *testing.T) {
	paths := append(shortPaths(`a/.*\`, 4), samplePaths()...)
	patterns := append(texts(`a/.*?\`, 3), samplePatterns()...)
	for _, path := range paths {
		literal := pattern.Literal(path)
		for _, p := range patterns {
			want := len(literal) <= api.MaxPattern && pattern.Match(p, path)
			got, ok := pattern.Overlap(p, literal)
			if ok != want || ok && got != path {
				t.Errorf("%.60q and %.60q: %.60q %t", p, literal, got, ok)
			}
		}
	}
}

// pathOf returns a path of n bytes.
func pathOf(r *rand.Rand, n int) string {
	for {
		b := make([]byte, n)
		for i := range b {
			b[i] = `aaabbc/.*?\`[r.IntN(11)]
			if b[i] == '/' && (i == 0 || i == n-1 || b[i-1] == '/') {
				b[i] = 'a'
			}
		}
		if pattern.Path(string(b)) {
			return string(b)
		}
	}
}

// cover returns a pattern that matches path, with about one sequence or any byte for each size bytes.
func cover(r *rand.Rand, path string, size int) string {
	var b strings.Builder
	for i := 0; i < len(path); {
		rest := path[i:]
		name, _, _ := strings.Cut(rest, "/")
		switch pick := r.IntN(3 * size); {
		case pick == 0:
			b.WriteString("**")
			i += r.IntN(len(rest) + 1)
		case pick == 1:
			b.WriteString("*")
			i += r.IntN(len(name) + 1)
		case pick == 2 && name != "":
			b.WriteString("?")
			i++
		default:
			if strings.IndexByte(`\*?`, rest[0]) >= 0 || r.IntN(10) == 0 {
				b.WriteByte('\\')
			}
			b.WriteByte(rest[0])
			i++
		}
	}
	return b.String()
}

// Promises 3.3 and 3.6: patterns that are made of one path match it, and overlap.
func TestPatternsOfOnePath(t *testing.T) {
	r := rand.New(rand.NewPCG(3, 6))
	done := 0
	for i := range 3000 {
		path := pathOf(r, 1+i%api.MaxPath)
		size := 1 + r.IntN(20)
		p, q := cover(r, path, size), cover(r, path, size)
		if !pattern.Valid(p) || !pattern.Valid(q) {
			continue
		}
		check(t, p, path, true)
		check(t, q, path, true)
		if !overlap(t, p, q) {
			t.Errorf("%q and %q: %q", p, q, path)
		}
		done++
	}
	if done < 1500 {
		t.Errorf("only %d pairs of patterns", done)
	}
}

// mirror returns the pattern with the parts of p in the other order.
func mirror(p string) string {
	var s string
	for _, part := range patternPart.FindAllString(p, -1) {
		s = part + s
	}
	return s
}

// Promise 3.6: other patterns that say the same, and patterns that match the paths in the other order of bytes.
func TestOverlapOfEquivalentPatterns(t *testing.T) {
	r := rand.New(rand.NewPCG(36, 37))
	pool := []string{"a", "b", "/", ".", "..", "*", "**", "?", `\*`, `\\`}
	random := func() string {
		var s string
		for range 1 + r.IntN(10) {
			s += pool[r.IntN(len(pool))]
		}
		return s
	}
	same := strings.NewReplacer("**", "*****", `\*`, `\*`, `\\`, `\\`, "a", `\a`, "/", `\/`, ".", `\.`)
	count := 0
	for range 20000 {
		p, q := random(), random()
		want := overlap(t, p, q)
		if want {
			count++
		}
		if got := overlap(t, mirror(p), mirror(q)); got != want {
			t.Errorf("%q and %q: %t, and in the other order of bytes %t", p, q, want, got)
		}
		if got := overlap(t, same.Replace(p), q); got != want {
			t.Errorf("%q and %q: %t, and written in another way %t", p, q, want, got)
		}
	}
	if count < 1000 || count > 19000 {
		t.Errorf("%d of 20000 pairs overlap", count)
	}
}
