package trust

import (
	"math"

	"admission/api"
	"admission/digest"
	"admission/document"
)

// The first words of the lines of a root document.
const (
	rootWord    = "root"
	quotaWord   = "quota"
	keyWord     = "key"
	revokedWord = "revoked"
)

// Encode returns the encoded form of r.
func Encode(r api.Root) ([]byte, api.Errno) {
	if !Valid(r) {
		return nil, api.ErrInvalid
	}
	lines := [][]string{{rootWord, document.Number(r.Version), document.Number(r.Expires)}}
	for _, q := range r.Quotas {
		lines = append(lines, []string{quotaWord, q.Role, document.Number(int64(q.Need))})
	}
	for _, k := range r.Keys {
		lines = append(lines, keyLine(k))
	}
	for _, x := range r.Revoked {
		lines = append(lines, []string{revokedWord, digest.Format(x.Key), document.Number(x.At)})
	}
	return document.Encode(lines)
}

func keyLine(k api.Key) []string {
	line := []string{keyWord, document.Number(int64(k.Public.Height)), digest.FormatHalf(k.Public.Root), k.Owner, document.Number(k.From), document.Number(k.Until)}
	return append(line, k.Roles...)
}

// Decode returns the root document whose encoded form is b.
func Decode(b []byte) (api.Root, api.Errno) {
	lines, e := document.Decode(b)
	if e != api.OK {
		return api.Root{}, e
	}
	r, ok := readLines(lines)
	switch {
	case !ok:
		return api.Root{}, api.ErrSyntax
	case !Valid(r):
		return api.Root{}, api.ErrInvalid
	}
	return r, api.OK
}

// readLines returns the root document of these lines, valid or not.
func readLines(lines [][]string) (api.Root, bool) {
	if len(lines) == 0 {
		return api.Root{}, false
	}
	r, ok := readLine(lines[0]).(api.Root)
	for _, line := range lines[1:] {
		switch x := readLine(line).(type) {
		case api.Quota:
			ok = ok && len(r.Keys) == 0 && len(r.Revoked) == 0
			r.Quotas = append(r.Quotas, x)
		case api.Key:
			ok = ok && len(r.Revoked) == 0
			r.Keys = append(r.Keys, x)
		case api.Revocation:
			r.Revoked = append(r.Revoked, x)
		default:
			ok = false
		}
	}
	return r, ok
}

// readLine returns what a line says: a root document without lists, a quota, a key or a revocation; nil if it is of none of these forms.
func readLine(line []string) any {
	w := words{left: line}
	read := lineReader(w.next())
	if read == nil {
		return nil
	}
	x := read(&w)
	if w.bad || len(w.left) > 0 {
		return nil
	}
	return x
}

// lineReader returns the method that reads the other words of a line that begins with this one, nil if there is none.
func lineReader(first string) func(*words) any {
	switch first {
	case rootWord:
		return (*words).root
	case quotaWord:
		return (*words).quota
	case keyWord:
		return (*words).key
	case revokedWord:
		return (*words).revocation
	}
	return nil
}

// words are the words of a line that are still to be read, and whether one before them was missing or of another form.
type words struct {
	left []string
	bad  bool
}

func (w *words) root() any {
	return api.Root{Version: read(w, document.ParseNumber), Expires: read(w, document.ParseNumber)}
}

func (w *words) quota() any {
	return api.Quota{Role: w.next(), Need: w.size()}
}

func (w *words) key() any {
	return api.Key{
		Public: api.PublicKey{Height: w.size(), Root: read(w, digest.ParseHalf)},
		Owner:  w.next(),
		From:   read(w, document.ParseNumber),
		Until:  read(w, document.ParseNumber),
		Roles:  w.rest(),
	}
}

func (w *words) revocation() any {
	return api.Revocation{Key: read(w, digest.Parse), At: read(w, document.ParseNumber)}
}

// next returns the next word, "" if there is none.
func (w *words) next() string {
	if len(w.left) == 0 {
		w.bad = true
		return ""
	}
	word := w.left[0]
	w.left = w.left[1:]
	return word
}

// rest returns all the words that are left.
func (w *words) rest() []string {
	l := w.left
	w.left = nil
	return l
}

// size returns the next word, which is a number, as an int. An int may have 32 bits; numbers that it might not hold are too great for every size, and so is what they become.
func (w *words) size() int { return int(min(read(w, document.ParseNumber), math.MaxInt32)) }

// read returns what parse makes of the next word.
func read[T any](w *words, parse func(string) (T, bool)) T {
	x, ok := parse(w.next())
	w.bad = w.bad || !ok
	return x
}
