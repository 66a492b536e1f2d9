package pattern

// What a part stands for.
const (
	oneByte   = iota // the byte sample
	flatByte         // any byte but a slash
	flatBytes        // any sequence of bytes but slashes
	deepBytes        // any sequence of bytes
)

// other is a byte that is nothing special in a path.
const other = 'x'

// part is a part of a pattern. Its sample is a byte that it takes.
type part struct {
	kind   int
	sample byte
}

// sequence reports whether x stands for sequences of any length, and not for one byte.
func (x part) sequence() bool { return x.kind == flatBytes || x.kind == deepBytes }

// takes reports whether c may be the byte, or one of the bytes, for which x stands.
func (x part) takes(c byte) bool {
	switch x.kind {
	case oneByte:
		return c == x.sample
	case deepBytes:
		return true
	}
	return c != slash
}
