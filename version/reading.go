package version

import (
	"bytes"
	"strings"

	"admission/api"
)

// reading is a version that is being read while its key is being written. Versions are compared by their keys alone, so that their order is total.
type reading struct {
	text
	key
}

// under returns the method of r that reads a version of the scheme to its end, or returns false; nil if there is no such scheme.
func (r *reading) under(scheme int) func() bool {
	switch scheme {
	case api.Semver:
		return r.semver
	case api.Debian:
		return r.debian
	case api.Dotted:
		return r.dotted
	}
	return nil
}

// text is what has not been read yet.
type text struct{ rest string }

// take reads the longest prefix of bytes that fit.
func (t *text) take(fits func(byte) bool) string {
	n := 0
	for n < len(t.rest) && fits(t.rest[n]) {
		n++
	}
	prefix := t.rest[:n]
	t.rest = t.rest[n:]
	return prefix
}

// skip reads c; false if something else follows.
func (t *text) skip(c byte) bool {
	if t.rest == "" || t.rest[0] != c {
		return false
	}
	t.rest = t.rest[1:]
	return true
}

// key is what has been written so far.
type key struct{ bytes []byte }

func (k *key) mark(m byte) { k.bytes = append(k.bytes, m) }

func (k *key) word(w string) { k.bytes = append(k.bytes, w...) }

// number writes the number with these digits, 0 if there are none. Its length comes first, since a longer number is greater.
func (k *key) number(digits string) {
	digits = strings.TrimLeft(digits, "0")
	k.mark(byte(len(digits)))
	k.word(digits)
}

// dropZeros takes back the numbers at the end that are 0. Each of them is a zero byte, and no other number ends with one.
func (k *key) dropZeros() { k.bytes = bytes.TrimRight(k.bytes, "\x00") }

func digit(c byte) bool { return '0' <= c && c <= '9' }

func notDigit(c byte) bool { return !digit(c) }

func letter(c byte) bool { return 'a' <= c && c <= 'z' || 'A' <= c && c <= 'Z' }
