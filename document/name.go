package document

import (
	"strconv"
	"strings"

	"admission/api"
)

// Name reports whether s is a name.
func Name(s string) bool {
	if s == "" || len(s) > api.MaxName || !letterOrDigit(s[0]) {
		return false
	}
	for i := range len(s) {
		if !letterOrDigit(s[i]) && strings.IndexByte("._-", s[i]) < 0 {
			return false
		}
	}
	return true
}

func letterOrDigit(c byte) bool { return 'a' <= c && c <= 'z' || digit(c) }

func digit(c byte) bool { return '0' <= c && c <= '9' }

// Number returns n in decimal.
func Number(n int64) string { return strconv.FormatInt(n, 10) }

// ParseNumber returns the number from 0 to MaxNumber whose Number is s.
func ParseNumber(s string) (int64, bool) {
	if s == "" || s[0] == '0' && s != "0" {
		return 0, false
	}
	var n int64
	for i := range len(s) {
		if !digit(s[i]) {
			return 0, false
		}
		n = 10*n + int64(s[i]-'0')
		// Compared at each digit, n never comes near the end of its type.
		if n > api.MaxNumber {
			return 0, false
		}
	}
	return n, true
}
