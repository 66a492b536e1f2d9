package version_test

import (
	"cmp"
	"regexp"
	"strings"
	"testing"

	"admission/api"
)

// debian describes the scheme Debian with two expressions, for versions with a revision and without one.
func debian() described {
	with := regexp.MustCompile(`^(?:([0-9]+):)?([0-9][0-9A-Za-z.+~-]*)-([0-9A-Za-z.+~]+)$`)
	without := regexp.MustCompile(`^(?:([0-9]+):)?([0-9][0-9A-Za-z.+~]*)()$`)
	valid := func(v string) bool {
		return len(v) <= api.MaxVersion && (with.MatchString(v) || without.MatchString(v))
	}
	split := remembered(func(v string) []string {
		if l := with.FindStringSubmatch(v); l != nil {
			return l
		}
		return without.FindStringSubmatch(v)
	})
	compare := func(a, b string) int {
		x, y := split(a), split(b)
		return cmp.Or(compareNumbers(x[1], y[1]), compareParts(x[2], y[2]), compareParts(x[3], y[3]))
	}
	return described{api.Debian, valid, compare}
}

// compareParts describes the order of upstream versions, and of revisions, as the chapter words it.
func compareParts(a, b string) int {
	const digits = "0123456789"
	for a != "" || b != "" {
		x, y := strings.IndexAny(a+"0", digits), strings.IndexAny(b+"0", digits)
		if c := comparePrefixes(a[:x], b[:y]); c != 0 {
			return c
		}
		a, b = a[x:], b[y:]
		x, y = len(a)-len(strings.TrimLeft(a, digits)), len(b)-len(strings.TrimLeft(b, digits))
		if c := compareNumbers(a[:x], b[:y]); c != 0 {
			return c
		}
		a, b = a[x:], b[y:]
	}
	return 0
}

// comparePrefixes describes the order of prefixes without digits.
func comparePrefixes(a, b string) int {
	for i := range max(len(a), len(b)) {
		if c := cmp.Compare(rank(a, i), rank(b, i)); c != 0 {
			return c
		}
	}
	return 0
}

// rank returns where the character at i stands in the order of characters, or the end.
func rank(s string, i int) int {
	switch {
	case i >= len(s):
		return 0
	case s[i] == '~':
		return -1
	case strings.IndexByte("+-.", s[i]) >= 0:
		return 1000 + int(s[i])
	}
	return int(s[i])
}

// Promise 6.3: the examples of the chapter.
func TestDebianExamples(t *testing.T) {
	ladder(t, debian(), "1.0~rc1", "1.0 1.00 1. 1.0-0", "1.0-1", "1.0-1.1", "1.0+b", "1:0.1")
}

// Promise 6.3: the epoch counts first, then the upstream version, then the revision.
func TestDebianParts(t *testing.T) {
	ladder(t, debian(), "0~-9", "0 0:0 00:0 000:0-0", "0-1", "0-9", "0a", "1-0 1 0:1 0:1-0", "1-1", "2~-5", "2 2-0 2-00 2-000", "2-1", "9-9", "10", "1:0 01:0 001:0-0", "1:0-1", "1:1", "2:0~", "2:0", "9:9", "10:0", "99:0", "100:0")
}

// Promise 6.3: which '-' separates the revision, and what stands before it.
func TestDebianHyphens(t *testing.T) {
	ladder(t, debian(), "1 1-0", "1-1", "1-2", "1--1", "1--2", "1--a", "1-1-0", "1-1-1", "1-2-1", "1-a-0")
	ladder(t, debian(), "1-~", "1-~1", "1-~~a-1")
	ladder(t, debian(), "1a", "1+", "1--0", "1.", "1..")
	ladder(t, debian(), "1-~~", "1-~", "1 1-0", "1-0a", "1-1~", "1-1", "1-a", "1-+", "1-.")
}

// Promise 6.3: '~', the end, letters and other characters, at the end and before digits and letters.
func TestDebianCharacters(t *testing.T) {
	ladder(t, debian(), "0~~", "0~~A", "0~~.", "0~0~", "0~ 0~0", "0~1", "0~A", "0~z", "0~+", "0~.", "0 0-0", "0A~", "0A0~1", "0A 0A0 0A00", "0B")
	ladder(t, debian(), "0", "0A~", "0A", "0AA", "0Aa", "0A+", "0B", "0Z", "0a", "0aa", "0a.", "0b", "0z", "0+", "0+a", "0++", "0+.", "0.", "0.a", "0.+", "0..")
	ladder(t, debian(), "0a1~", "0a1", "0a1a", "0a1+", "0a2", "0a9", "0a10", "0aa", "0a-1-1", "0b")
	ladder(t, debian(), "1~1", "1", "1a~", "1a", "1.~", "1.~1", "1.", "1.1", "1.1.1", "1.2", "1.a")
}

// Promise 6.3: '-' stands between '+' and '.' among other characters.
func TestDebianOrderOfOthers(t *testing.T) {
	ladder(t, debian(), "0z-1", "0+-1", "0--1", "0.-1")
}

// Promise 6.3: no digits count as 0, as do zeros, after a prefix of any sort.
func TestDebianMissingDigits(t *testing.T) {
	ladder(t, debian(), "1. 1.0 1.00 01.0", "1.0. 1.0.0", "1.0.1 1.00.01", "1.a 1.a0 1.a00 1.a-0 1.a0-00", "1.a1 1.a01 1.a001", "1.. 1..0 1..-00", "1..1 1..01")
}

// Promise 6.3: what a version is made of.
func TestDebianForm(t *testing.T) {
	expectVersions(t, debian(), "0", "1", "007", "1.0", "1a", "1A", "1z", "1Z", "1.", "1+", "1~", "1..", "1~~", "1.2+3~4", "0:0", "000:0", "1:2", "1:2-3", "1-1", "1-a", "1-~", "1-+", "1-.", "1--1", "1-1-1", "1-a-b-c", "1.0-1.1~a+b", "1:2-3-4", "12:0a", "99999999999999999999:0")
	expectOthers(t, debian(), "a", "a1", ".1", "+1", "~1", "-", "-1", "--1", "~", ".", "1-", "1--", "1-1-", "1:1-", "1:-1", "1:a", "1:", ":", ":1", "::1", "1::1", "1:2:3", "a:1", "1a:1", "1.0:1", "1~:1", "+1:1", "-1:1", " 1:1", "1 :1", "1: 1", "1-1:1", "1-:1", "1-2:3-4", "1:2-3:4")
	expectOthers(t, debian(), "1_2", "1_", "1 ", " 1", "1 2", "1\n", "\n1", "1\t", "1/2", "1*", "1=", "1^", "1%", "1@", "1[", "1`", "1{", "1,2", "1-1_", "1-a b", "1-1 ", "1-\n", "1-a/b", "1\x00", "1-\x00", "1;2", "1!2", "1\\2")
}

// Promises 6.3 and 6.6: every short text, and the order of all that are versions.
func TestDebianShortTexts(t *testing.T) {
	filter(t, debian(), texts("", "01a~.+-:", 4))
	for _, all := range [][]string{texts("", "01:-", 5), texts("", "01a~.-", 4), texts("0", "a~+-", 4), texts("0", "aZ~0", 4), texts("1-", "0~.a1", 4)} {
		valid := filter(t, debian(), all)
		if len(valid) < 100 {
			t.Errorf("only %d versions", len(valid))
		}
		expectKeys(t, debian(), valid)
		expectOrder(t, debian(), valid[:100])
	}
}
