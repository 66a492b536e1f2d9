package snapshot

import (
	"admission/api"
	"admission/digest"
	"admission/document"
)

const (
	sourceTag   = "file"
	wordsOfLine = 3
)

// Lines returns a line for each entry of s.
func Lines(tag string, s []api.Entry) [][]string {
	lines := make([][]string, 0, len(s))
	for _, x := range s {
		lines = append(lines, []string{tag, x.Path, digest.Format(x.Digest)})
	}
	return lines
}

// Read returns the valid snapshot whose Lines are these.
func Read(tag string, lines [][]string) ([]api.Entry, api.Errno) {
	s := make([]api.Entry, 0, len(lines))
	for _, line := range lines {
		if len(line) != wordsOfLine || line[0] != tag {
			return nil, api.ErrSyntax
		}
		d, ok := digest.Parse(line[2])
		if !ok {
			return nil, api.ErrSyntax
		}
		s = append(s, api.Entry{Path: line[1], Digest: d})
	}
	if !Valid(s) {
		return nil, api.ErrInvalid
	}
	return s, api.OK
}

// Revision returns the digest of s as a source; zero if s is not valid.
func Revision(s []api.Entry) api.Digest {
	if !Valid(s) {
		return api.Digest{}
	}
	// No valid snapshot comes near the limits of a document.
	b, _ := document.Encode(Lines(sourceTag, s))
	return digest.Sum(b)
}
