package digest

import (
	"strings"

	"admission/api"
)

const (
	prefix    = "sha256:"
	hexDigits = "0123456789abcdef"
)

// Format returns d as text.
func Format(d api.Digest) string { return prefix + hex(d[:]) }

// Parse returns the Digest whose Format is s.
func Parse(s string) (api.Digest, bool) {
	var d api.Digest
	digits, ok := strings.CutPrefix(s, prefix)
	if !ok || !unhex(d[:], digits) {
		return api.Digest{}, false
	}
	return d, true
}

// FormatHalf returns h as text.
func FormatHalf(h api.Half) string { return hex(h[:]) }

// ParseHalf returns the Half whose FormatHalf is s.
func ParseHalf(s string) (api.Half, bool) {
	var h api.Half
	if !unhex(h[:], s) {
		return api.Half{}, false
	}
	return h, true
}

// hex returns the bytes of b as hexadecimal digits.
func hex(b []byte) string {
	out := make([]byte, 0, 2*len(b))
	for _, x := range b {
		out = append(out, hexDigits[x>>4], hexDigits[x&15])
	}
	return string(out)
}

// unhex fills b with the bytes whose hex is s, and reports whether there are such bytes. If not, b holds anything.
func unhex(b []byte, s string) bool {
	if len(s) != 2*len(b) {
		return false
	}
	for i := range b {
		high := strings.IndexByte(hexDigits, s[2*i])
		low := strings.IndexByte(hexDigits, s[2*i+1])
		if high < 0 || low < 0 {
			return false
		}
		b[i] = byte(high<<4 | low)
	}
	return true
}
