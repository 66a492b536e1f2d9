package document

import "strings"

const (
	emptyWord = "~"
	escape    = '%'
	hexDigits = "0123456789ABCDEF"
)

// Word returns the encoded form of w.
func Word(w string) string { return string(appendWord(nil, w)) }

// Unword returns the word whose encoded form is s.
func Unword(s string) (string, bool) {
	switch s {
	case "":
		return "", false
	case emptyWord:
		return "", true
	}
	w := make([]byte, 0, len(s))
	for i := 0; i < len(s); i++ {
		c := s[i]
		if c == escape {
			var ok bool
			if c, ok = escaped(s[i+1:]); !ok {
				return "", false
			}
			i += 2
		} else if !plain(c) {
			return "", false
		}
		w = append(w, c)
	}
	return string(w), true
}

// appendWord appends the encoded form of w to b.
func appendWord(b []byte, w string) []byte {
	if w == "" {
		return append(b, emptyWord...)
	}
	for i := range len(w) {
		c := w[i]
		if plain(c) {
			b = append(b, c)
		} else {
			b = append(b, escape, hexDigits[c>>4], hexDigits[c&15])
		}
	}
	return b
}

// plain reports whether c stands for itself in the encoded form of a word.
func plain(c byte) bool { return '!' <= c && c <= '}' && c != escape }

// escaped returns the byte for which the two digits at the beginning of s stand behind the escape byte; false if they are missing, or the byte stands for itself.
func escaped(s string) (byte, bool) {
	if len(s) < 2 {
		return 0, false
	}
	high := strings.IndexByte(hexDigits, s[0])
	low := strings.IndexByte(hexDigits, s[1])
	if high < 0 || low < 0 {
		return 0, false
	}
	c := byte(high<<4 | low)
	if plain(c) {
		return 0, false
	}
	return c, true
}
