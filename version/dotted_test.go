package version_test

import (
	"regexp"
	"strings"
	"testing"

	"admission/api"
)

// dotted describes the scheme Dotted.
func dotted() described {
	form := regexp.MustCompile(`^[0-9]+(\.[0-9]+)*$`)
	valid := func(v string) bool { return len(v) <= api.MaxVersion && form.MatchString(v) }
	split := remembered(func(v string) []string { return strings.Split(v, ".") })
	compare := func(a, b string) int {
		x, y := split(a), split(b)
		for i := range max(len(x), len(y)) {
			if c := compareNumbers(at(x, i), at(y, i)); c != 0 {
				return c
			}
		}
		return 0
	}
	return described{api.Dotted, valid, compare}
}

// at returns the number at i, of which a missing one counts as 0.
func at(l []string, i int) string {
	if i >= len(l) {
		return "0"
	}
	return l[i]
}

// Promise 6.4: the examples of the chapter.
func TestDottedExamples(t *testing.T) {
	ladder(t, dotted(), "1 1.0 01", "1.0.1", "1.2", "1.10")
}

// Promise 6.4: number by number, with missing ones, and zeros before, between and behind others.
func TestDottedNumbers(t *testing.T) {
	ladder(t, dotted(), "0 0.0 00 0.0.0 000.00.0 0.0.0.0.0.0", "0.0.0.1 0.00.0.01.0", "0.0.1", "0.0.1.0.0.1", "0.1 0.1.0 00.01.00", "0.1.1", "0.2", "0.10", "1 1.0 01 1.0.0 001.000", "1.0.0.0.0.0.1", "1.0.1 1.0.01 1.0.1.0", "1.0.1.1", "1.0.10", "1.1", "1.2", "1.10", "1.11", "1.100", "2 2.0", "2.1", "9", "10 10.0", "11", "19.9.9", "20", "100")
}

// Promise 6.4: as many numbers as there is place for.
func TestDottedManyNumbers(t *testing.T) {
	zeros := strings.Repeat("0.", 31)
	ladder(t, dotted(), "0 "+zeros+"0 "+zeros+"00", zeros+"1 "+zeros+"01", zeros+"2", zeros+"09", zeros+"10", "1 1."+zeros[2:]+"0 "+strings.Repeat("0", 63)+"1", "1."+zeros[2:]+"1")
}

// Promise 6.4: what a version is made of.
func TestDottedForm(t *testing.T) {
	expectVersions(t, dotted(), "0", "00", "1", "01", "1.0", "0.0", "01.02", "1.2.3", "1.2.3.4.5.6.7.8.9.10", "99999999999999999999", strings.Repeat("1.", 31)+"1", strings.Repeat("1.", 31)+"11")
	expectOthers(t, dotted(), ".", "..", "1.", ".1", "1..2", "1.2.", ".1.2", "a", "1a", "a1", "1.a", "a.1", "1.0a", "-1", "+1", "1-1", "1+1", "1~", "1:1", "1.-1", "1.+1", "1,0", "1_0", "0x1", "1e1", "v1", "*", " ", " 1", "1 ", "1 .2", "1. 2", "1\n", "\n1", "1\t", "1\x00", "1./2", strings.Repeat("1.", 32), strings.Repeat("1.", 32)+"1")
}

// Promises 6.4 and 6.6: every short text, and the order of all that are versions.
func TestDottedShortTexts(t *testing.T) {
	filter(t, dotted(), texts("", "01.a-", 5))
	for _, all := range [][]string{texts("", "01.", 6), texts("", "0129.", 4)} {
		valid := filter(t, dotted(), all)
		if len(valid) < 100 {
			t.Errorf("only %d versions", len(valid))
		}
		expectKeys(t, dotted(), valid)
		expectOrder(t, dotted(), valid[:100])
	}
}
