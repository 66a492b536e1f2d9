package version_test

import (
	"cmp"
	"regexp"
	"strings"
	"testing"

	"admission/api"
)

// semver describes the scheme Semver with the expression that semver.org suggests.
func semver() described {
	form := regexp.MustCompile(`^(0|[1-9]\d*)\.(0|[1-9]\d*)\.(0|[1-9]\d*)(?:-((?:0|[1-9]\d*|\d*[a-zA-Z-][0-9a-zA-Z-]*)(?:\.(?:0|[1-9]\d*|\d*[a-zA-Z-][0-9a-zA-Z-]*))*))?(?:\+([0-9a-zA-Z-]+(?:\.[0-9a-zA-Z-]+)*))?$`)
	valid := func(v string) bool { return len(v) <= api.MaxVersion && form.MatchString(v) }
	split := remembered(form.FindStringSubmatch)
	compare := func(a, b string) int {
		x, y := split(a), split(b)
		for i := 1; i <= 3; i++ {
			if c := compareNumbers(x[i], y[i]); c != 0 {
				return c
			}
		}
		return comparePrereleases(x[4], y[4])
	}
	return described{api.Semver, valid, compare}
}

// comparePrereleases describes the order of prereleases, of which "" is none.
func comparePrereleases(a, b string) int {
	if a == "" || b == "" {
		return cmp.Compare(len(b), len(a)) // only one of them can be longer
	}
	x, y := strings.Split(a, "."), strings.Split(b, ".")
	for i := range min(len(x), len(y)) {
		if c := compareIdentifiers(x[i], y[i]); c != 0 {
			return c
		}
	}
	return cmp.Compare(len(x), len(y))
}

func compareIdentifiers(a, b string) int {
	switch x, y := onlyDigits(a), onlyDigits(b); {
	case x && y:
		return compareNumbers(a, b)
	case x:
		return -1
	case y:
		return 1
	}
	return cmp.Compare(a, b)
}

func onlyDigits(s string) bool { return strings.Trim(s, "0123456789") == "" }

// Promise 6.2: the examples of the chapter and of semver.org.
func TestSemverExamples(t *testing.T) {
	ladder(t, semver(), "1.0.0-alpha", "1.0.0-alpha.1", "1.0.0-alpha.beta", "1.0.0-beta", "1.0.0-beta.2", "1.0.0-beta.11", "1.0.0-rc.1", "1.0.0 1.0.0+a 1.0.0+b")
	ladder(t, semver(), "1.0.0", "2.0.0", "2.1.0", "2.1.1")
}

// Promise 6.2: MAJOR, MINOR and PATCH as numbers, in this order, before any prerelease.
func TestSemverNumbers(t *testing.T) {
	ladder(t, semver(), "0.0.0-0", "0.0.0", "0.0.1-z", "0.0.1", "0.0.2", "0.0.9", "0.0.10", "0.0.11", "0.0.100", "0.1.0", "0.1.99", "0.2.0-a", "0.2.0", "0.10.0", "1.0.0-0", "1.0.0", "1.0.1", "1.1.0", "1.9.9", "1.10.0", "2.0.0", "9.99.999", "10.0.0")
}

// Promise 6.2: identifiers that are numbers, words, and lists of them with a common beginning.
func TestSemverPrereleases(t *testing.T) {
	ladder(t, semver(), "1.0.0-0", "1.0.0-0.0", "1.0.0-0.0.0", "1.0.0-0.a", "1.0.0-1", "1.0.0-2", "1.0.0-9", "1.0.0-10", "1.0.0-11.0", "1.0.0-12", "1.0.0-100", "1.0.0--", "1.0.0--.-", "1.0.0---", "1.0.0--1", "1.0.0--a", "1.0.0-0-", "1.0.0-00a", "1.0.0-0a", "1.0.0-1-", "1.0.0-10a", "1.0.0-1a", "1.0.0-2a", "1.0.0-A", "1.0.0-Z", "1.0.0-a", "1.0.0-a.0", "1.0.0-a.1", "1.0.0-a.a", "1.0.0-a.a.a", "1.0.0-a.b", "1.0.0-a-", "1.0.0-a-b", "1.0.0-a0", "1.0.0-a1", "1.0.0-a10", "1.0.0-a2", "1.0.0-aA", "1.0.0-aa", "1.0.0-b", "1.0.0-z", "1.0.0")
}

// Promise 6.2: build metadata of all sorts does not count.
func TestSemverBuild(t *testing.T) {
	ladder(t, semver(), "1.0.0-a.1 1.0.0-a.1+1 1.0.0-a.1+00 1.0.0-a.1+z.z", "1.0.0-a.2+0", "1.0.0-b+0", "1.0.0 1.0.0+0 1.0.0+00 1.0.0+01.02 1.0.0+- 1.0.0+--- 1.0.0+a-b.c 1.0.0+-.-.- 1.0.0+1-1 1.0.0+zzz", "1.0.1+0 1.0.1")
}

// Promise 6.2: what a version is made of.
func TestSemverForm(t *testing.T) {
	expectVersions(t, semver(), "0.0.0", "1.2.3", "10.20.30", "1.0.0-0", "1.0.0-0a", "1.0.0-00a", "1.0.0-0-", "1.0.0-a", "1.0.0-a.b.c", "1.0.0-a-b", "1.0.0--", "1.0.0---", "1.0.0--.-", "1.0.0-0.0.0", "1.0.0-a.0", "1.0.0-A.Z.a.z.0.9", "1.0.0+a", "1.0.0+00", "1.0.0+001.002", "1.0.0+-", "1.0.0+a-b", "1.0.0+a.b.c", "1.0.0-a+b", "1.0.0-a.b+c.d", "1.0.0-1+1", "1.0.0--+-")
	expectOthers(t, semver(), "1", "1.", "1.0", "1.0.", ".1.0", "1..0", "1.0..0", "1.0.0.", "1.0.0.0", ".1.0.0", "00.0.0", "01.0.0", "0.00.0", "1.02.0", "1.0.00", "1.0.03", "-1.0.0", "+1.0.0", "1.-1.0", "1.0.-1", "1.+0.0", "a.0.0", "1.a.0", "1.0.a", "1.0.0a", "1a.0.0", "v1.0.0", "=1.0.0", "1,0,0", "0x1.0.0", "1e1.0.0", "1_0.0.0")
	expectOthers(t, semver(), "1.0-a", "1-a", "1.0.0-", "1.0.0-.", "1.0.0-.a", "1.0.0-a.", "1.0.0-a..b", "1.0.0-00", "1.0.0-01", "1.0.0-007", "1.0.0-a.01", "1.0.0-01.a", "1.0.0-a_b", "1.0.0-a~b", "1.0.0-a:b", "1.0.0-a b", "1.0.0-a/b", "1.0.0-*", "1.0.0-a.*", "1.0.0~a")
	expectOthers(t, semver(), "1.0.0+", "1.0.0+.", "1.0.0+.a", "1.0.0+a.", "1.0.0+a..b", "1.0.0+a+b", "1.0.0++", "1.0.0+a_b", "1.0.0-+a", "1.0.0-a+", "1.0.0-a.+b", "1.0.0-a+.b", "1.0+a", "1+a", "+a", "-a", "+", "-", ".", "..", "...")
	expectOthers(t, semver(), " 1.0.0", "1.0.0 ", "1. 0.0", "1.0.0\n", "\n1.0.0", "1.0.0\t", "1.0.0\r", "1.0.0-a\n", "1.0.0+a\n", "1.0.0\x00", "1.0.0-\x00")
}

// Promises 6.2 and 6.6: every short text, and the order of all that are versions.
func TestSemverShortTexts(t *testing.T) {
	filter(t, semver(), texts("", "01.", 7))
	filter(t, semver(), texts("", "01.-+", 5))
	filter(t, semver(), texts("1.0.", "01.-+a", 5))
	for _, all := range [][]string{texts("1.0.0", "-+.01a", 4), texts("1.0.0-", "01a.", 4), texts("1.0.0-a", ".-0Z", 4)} {
		valid := filter(t, semver(), all)
		if len(valid) < 100 {
			t.Errorf("only %d versions", len(valid))
		}
		expectKeys(t, semver(), valid)
		expectOrder(t, semver(), valid[:100])
	}
}
