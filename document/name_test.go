package document_test

import (
	"math"
	"strconv"
	"strings"
	"testing"

	"admission/api"
	"admission/document"
)

// Promise 2.4.
func TestNames(t *testing.T) {
	names := []string{
		"a", "z", "0", "9", "abc", "a.b", "a_b", "a-b", "a.", "a_", "a-", "0-", "9..", "a--b__c..d", "root", "build-2",
		strings.Repeat("a", api.MaxName), strings.Repeat("0", api.MaxName), "a" + strings.Repeat("-", api.MaxName-1),
	}
	for _, s := range names {
		if !document.Name(s) {
			t.Errorf("%q is no name", s)
		}
	}
	others := []string{
		"", ".", "_", "-", ".a", "_a", "-a", "..", " ", " a", "a ", "a b", "A", "aB", "Z", "a/b", "a\\b", "a:b", "a~", "~", "%61",
		"a\x00", "\x00", "a\n", "\xff", "a\xff", "ä", "aä", "٣", "ａ", "a+", "a*", "a,b", "`", "{", "/", "@",
		strings.Repeat("a", api.MaxName+1), strings.Repeat("a", 1<<20), strings.Repeat("a", api.MaxName) + "A",
	}
	for _, s := range others {
		if document.Name(s) {
			t.Errorf("%.60q is a name", s)
		}
	}
}

// Promise 2.4: every byte at the first place, at a later one and at the last one.
func TestEveryByteOfNames(t *testing.T) {
	const first = "abcdefghijklmnopqrstuvwxyz0123456789"
	for c := range 256 {
		b := byte(c)
		starts := strings.IndexByte(first, b) >= 0
		follows := strings.IndexByte(first+"._-", b) >= 0
		s := string([]byte{b})
		for _, x := range []struct {
			name string
			want bool
		}{
			{s, starts}, {s + "a", starts}, {"a" + s, follows}, {"0" + s, follows}, {"a" + s + "a", follows},
			{strings.Repeat("x", api.MaxName-1) + s, follows}, {strings.Repeat("x", api.MaxName) + s, false},
		} {
			if got := document.Name(x.name); got != x.want {
				t.Errorf("Name(%q): %t", x.name, got)
			}
		}
	}
}

// Promise 2.5: numbers of every size, also those that ParseNumber does not read.
func TestNumbers(t *testing.T) {
	tests := []struct {
		n int64
		s string
	}{
		{0, "0"}, {1, "1"}, {9, "9"}, {10, "10"}, {99, "99"}, {100, "100"}, {1234567890, "1234567890"},
		{api.MaxNumber - 1, "1099511627775"}, {api.MaxNumber, "1099511627776"}, {api.MaxNumber + 1, "1099511627777"},
		{-1, "-1"}, {-10, "-10"}, {-api.MaxNumber, "-1099511627776"},
		{math.MaxInt64, "9223372036854775807"}, {math.MinInt64, "-9223372036854775808"}, {math.MinInt64 + 1, "-9223372036854775807"},
		{math.MaxInt32 + 1, "2147483648"}, {math.MaxUint32 + 1, "4294967296"},
	}
	for _, x := range tests {
		if got := document.Number(x.n); got != x.s {
			t.Errorf("Number(%d): %q", x.n, got)
		}
		got, ok := document.ParseNumber(x.s)
		if x.n < 0 || x.n > api.MaxNumber {
			if ok || got != 0 {
				t.Errorf("ParseNumber(%q): %d %t", x.s, got, ok)
			}
		} else if !ok || got != x.n {
			t.Errorf("ParseNumber(%q): %d %t", x.s, got, ok)
		}
	}
}

// Promise 2.5: texts that are Number of no number from 0 to MaxNumber.
func TestOtherNumbers(t *testing.T) {
	texts := []string{
		"", "-", "+", " ", "-0", "+0", "+1", "-1", "--1", "00", "01", "007", "0000000000000", "01099511627776", "00000000000000000000001",
		" 1", "1 ", "1\n", "\n1", "1\x00", "\x001", "1.0", "1e3", "1_000", "1,000", "0x10", "0b1", "0o7", "1f", "a", "/", ":", "1/", "1:",
		"1099511627777", "1099511627780", "1100000000000", "2000000000000", "9999999999999", "10995116277760", "10000000000000",
		"9223372036854775807", "9223372036854775808", "-9223372036854775808", "18446744073709551615", "18446744073709551616", "18446744073709551617",
		"1" + strings.Repeat("0", 100), strings.Repeat("9", 1<<20), "٣", "1٣", "０", "\xff", "five",
	}
	for _, s := range texts {
		if n, ok := document.ParseNumber(s); ok || n != 0 {
			t.Errorf("ParseNumber(%.60q): %d %t", s, n, ok)
		}
	}
}

// Promise 2.5: ParseNumber reads exactly what Number writes, among all short texts and around the ends of the range.
func TestParseNumberOfShortTexts(t *testing.T) {
	check := func(s string) {
		want, err := strconv.ParseInt(s, 10, 64)
		good := err == nil && want >= 0 && want <= api.MaxNumber && document.Number(want) == s
		if !good {
			want = 0
		}
		if n, ok := document.ParseNumber(s); ok != good || n != want {
			t.Errorf("ParseNumber(%q): %d %t", s, n, ok)
		}
	}
	every("01289-+ _x", 4, check)
	for n := range int64(2000) {
		check(strconv.FormatInt(api.MaxNumber-1000+n, 10))
		check(strconv.FormatInt(n-1000, 10))
	}
}
