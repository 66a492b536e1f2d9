package version

import "strings"

// The bytes that say in a key which identifier follows, or that there is no prerelease. Since they are less than all characters, and a key that ends is less than one that goes on, neither a word nor the list needs an end of its own.
const (
	numericNext = iota
	otherNext
	noPrerelease
)

// semver reads a version of the scheme Semver.
func (r *reading) semver() bool {
	return r.plainNumber() && r.skip('.') && r.plainNumber() && r.skip('.') && r.plainNumber() && r.prerelease() && r.build() && r.rest == ""
}

// plainNumber reads a number without superfluous zeros.
func (r *reading) plainNumber() bool {
	digits := r.take(digit)
	r.number(digits)
	return plain(digits)
}

// prerelease reads a prerelease, if there is one.
func (r *reading) prerelease() bool {
	if !r.skip('-') {
		r.mark(noPrerelease)
		return true
	}
	return r.identifiers(r.identifier)
}

// build reads build metadata, if there is any. It does not count.
func (r *reading) build() bool {
	return !r.skip('+') || r.identifiers(func(string) bool { return true })
}

// identifiers reads one or more identifiers, separated by dots, and asks accept of each of them.
func (r *reading) identifiers(accept func(string) bool) bool {
	for {
		w := r.take(identifying)
		if w == "" || !accept(w) {
			return false
		}
		if !r.skip('.') {
			return true
		}
	}
}

// identifier writes the identifier w of a prerelease; false if it is a number with superfluous zeros.
func (r *reading) identifier(w string) bool {
	if strings.Trim(w, "0123456789") == "" {
		r.mark(numericNext)
		r.number(w)
		return plain(w)
	}
	r.mark(otherNext)
	r.word(w)
	return true
}

// plain reports whether the digits are a number without superfluous zeros.
func plain(digits string) bool { return digits == "0" || digits != "" && digits[0] != '0' }

func identifying(c byte) bool { return letter(c) || digit(c) || c == '-' }
