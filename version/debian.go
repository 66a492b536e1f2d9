package version

import "strings"

// The bytes that stand in a key for what a prefix without digits consists of, apart from letters, which stand for themselves.
const (
	tilde        = 1
	prefixEnd    = 2
	aboveLetters = 0x80 // with the character added
)

// debian reads a version of the scheme Debian.
func (r *reading) debian() bool {
	r.epoch()
	upstream, revision := r.rest, ""
	if i := strings.LastIndexByte(r.rest, '-'); i >= 0 {
		upstream, revision = r.rest[:i], r.rest[i+1:]
		if revision == "" {
			return false
		}
	}
	return upstream != "" && digit(upstream[0]) && r.part(upstream) && r.part(revision)
}

// epoch reads an epoch, if there is one.
func (r *reading) epoch() {
	start := r.text
	digits := r.take(digit)
	if digits == "" || !r.skip(':') {
		r.text, digits = start, ""
	}
	r.number(digits)
}

// part reads s, an upstream version or a revision, to its end.
func (r *reading) part(s string) bool {
	r.rest = s
	for done := false; !done; done = r.rest == "" {
		if !r.prefix() {
			return false
		}
		r.number(r.take(digit))
	}
	// A longer part goes on with a prefix, whose first character is compared with the end of an empty one.
	r.mark(prefixEnd)
	return true
}

// prefix reads the longest prefix without digits.
func (r *reading) prefix() bool {
	for _, c := range []byte(r.take(notDigit)) {
		switch {
		case c == '~':
			r.mark(tilde)
		case letter(c):
			r.mark(c)
		case c == '.' || c == '+' || c == '-':
			r.mark(aboveLetters + c)
		default:
			return false
		}
	}
	r.mark(prefixEnd)
	return true
}
