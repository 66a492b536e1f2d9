package document_test

import (
	"fmt"
	"regexp"
	"strings"
	"testing"

	"admission/document"
)

// rejectWord checks that s is the encoded form of no word.
func rejectWord(t *testing.T, s string) {
	t.Helper()
	if w, ok := document.Unword(s); ok || w != "" {
		t.Errorf("Unword(%.60q): %.60q %t", s, w, ok)
	}
}

// acceptWord checks that the encoded form of w is s.
func acceptWord(t *testing.T, w, s string) {
	t.Helper()
	if got := document.Word(w); got != s {
		t.Errorf("Word(%.60q): %.60q, want %.60q", w, got, s)
	}
	if got, ok := document.Unword(s); !ok || got != w {
		t.Errorf("Unword(%.60q): %.60q %t, want %.60q", s, got, ok, w)
	}
}

// Promise 2.1: words and their encoded forms, the example of the chapter among them.
func TestWords(t *testing.T) {
	tests := []struct{ word, form string }{
		{"", "~"},
		{"~", "%7E"},
		{"~~", "%7E%7E"},
		{"%", "%25"},
		{"%%", "%25%25"},
		{"%7E", "%257E"},
		{"a", "a"},
		{"a b%", "a%20b%25"},
		{"a~", "a%7E"},
		{"~a", "%7Ea"},
		{"\n", "%0A"},
		{"\t\r", "%09%0D"},
		{"\x00", "%00"},
		{"\x00\x1f \x7f\x80\xff", "%00%1F%20%7F%80%FF"},
		{"!}", "!}"},
		{"$&", "$&"},
		{"sha256:0f", "sha256:0f"},
		{"é", "%C3%A9"},
		{"\ufeff", "%EF%BB%BF"},
		{"\xc3", "%C3"},
		{"+", "+"},
	}
	for _, x := range tests {
		acceptWord(t, x.word, x.form)
	}
}

// Promise 2.1: every byte, alone and between others.
func TestEveryByteOfWords(t *testing.T) {
	const selves = "!\"#$&'()*+,-./0123456789:;<=>?@ABCDEFGHIJKLMNOPQRSTUVWXYZ[\\]^_`abcdefghijklmnopqrstuvwxyz{|}"
	for c := range 256 {
		w := string([]byte{byte(c)})
		form, other := fmt.Sprintf("%%%02X", c), w
		if strings.IndexByte(selves, byte(c)) >= 0 {
			form, other = other, form
		}
		acceptWord(t, w, form)
		acceptWord(t, w+w, form+form)
		acceptWord(t, "a"+w+"0", "a"+form+"0")
		if w != "~" {
			rejectWord(t, other)
		}
		rejectWord(t, "a"+other)
		rejectWord(t, other+"a%20")
	}
}

// Promise 2.1: every pair of digits behind '%'.
func TestEveryEscape(t *testing.T) {
	const digits = "0123456789ABCDEF"
	for high := range 256 {
		for low := range 256 {
			s := string([]byte{'%', byte(high), byte(low)})
			i := strings.IndexByte(digits, byte(high))
			j := strings.IndexByte(digits, byte(low))
			c := 16*i + j
			if i < 0 || j < 0 || c >= 0x21 && c <= 0x7d && c != '%' {
				rejectWord(t, s)
				rejectWord(t, "a"+s+"b")
			} else {
				acceptWord(t, string([]byte{byte(c)}), s)
			}
		}
	}
}

// Promise 2.1: forms that Word makes of no word.
func TestOtherForms(t *testing.T) {
	forms := []string{
		"", " ", "~~", "~a", "a~", "a~b", "%7E~", "a b", "a ", " a", "a\n", "\n", "\t", "\x00", "\x7f", "\x80", "\xff", "é",
		"%", "a%", "%%", "%2", "%2%", "%20%", "%20%2", "%%20", "% 20", "%2 0",
		"%41", "%61", "%30", "%21", "%7D", "%24", "%26", "a%41", "%20%41",
		"%7e", "%0a", "%c3%A9", "%C3%a9", "%ff", "%fF", "%Ff", "%GG", "%0G", "%G0", "%+1", "%-1", "%0x", "%0X0A", "%u0020", "%:0", "%@0", "%/0",
	}
	for _, s := range forms {
		rejectWord(t, s)
	}
	long := strings.Repeat("a", 1<<20)
	rejectWord(t, long+"~")
	rejectWord(t, long+"%2")
	acceptWord(t, long, long)
	acceptWord(t, strings.Repeat("~", 1<<20), strings.Repeat("%7E", 1<<20))
}

// Promise 2.1: every short text is the encoded form of one word or of none.
func TestEveryShortForm(t *testing.T) {
	form := regexp.MustCompile(`\A` + wordForm + `\z`)
	every("A~%2507eF", 6, func(s string) {
		if !form.MatchString(s) {
			rejectWord(t, s)
		} else if w, ok := document.Unword(s); !ok || document.Word(w) != s {
			t.Errorf("%q: %q %t", s, w, ok)
		}
	})
}
