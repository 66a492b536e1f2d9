package version

// dotted reads a version of the scheme Dotted.
func (r *reading) dotted() bool {
	for {
		digits := r.take(digit)
		if digits == "" {
			return false
		}
		r.number(digits)
		if r.rest == "" {
			// Missing numbers count as 0, and the key of more numbers is greater.
			r.dropZeros()
			return true
		}
		if !r.skip('.') {
			return false
		}
	}
}
