package record

import (
	"admission/api"
	"admission/document"
	"admission/snapshot"
)

// The first words of the lines of a record.
const (
	recordTag   = "record"
	commandTag  = "command"
	envTag      = "env"
	materialTag = "material"
	productTag  = "product"
)

// The numbers of words of the lines that always have the same.
const (
	wordsOfHead     = 5
	wordsOfVariable = 3
)

// Encode returns the encoded form of r.
func Encode(r api.Record) ([]byte, api.Errno) {
	if !Valid(r) {
		return nil, api.ErrInvalid
	}
	lines := [][]string{
		{recordTag, r.Run, r.Scope, r.Step, document.Number(r.At)},
		append([]string{commandTag}, r.Command...),
	}
	for _, v := range r.Env {
		lines = append(lines, []string{envTag, v.Name, v.Value})
	}
	lines = append(lines, snapshot.Lines(materialTag, r.Materials)...)
	lines = append(lines, snapshot.Lines(productTag, r.Products)...)
	// A valid record never exceeds the limits of a document: the longest one has less than half of the bytes.
	return document.Encode(lines)
}

// Decode returns the valid record whose encoded form is b.
func Decode(b []byte) (api.Record, api.Errno) {
	lines, e := document.Decode(b)
	if e != api.OK {
		return api.Record{}, e
	}
	d := readLines(lines)
	switch {
	case d.malformed:
		return api.Record{}, api.ErrSyntax
	case d.invalid, !Valid(d.Record):
		return api.Record{}, api.ErrInvalid
	}
	return d.Record, api.OK
}

// A draft is a record as its lines say it. A line of another form anywhere comes before everything that is not valid, so both are noted until all lines are read.
type draft struct {
	api.Record
	malformed bool
	invalid   bool
}

// readLines returns the draft of these lines.
func readLines(lines [][]string) draft {
	left := lines
	// take takes the next lines that begin with tag.
	take := func(tag string) [][]string {
		n := 0
		for n < len(left) && left[n][0] == tag {
			n++
		}
		taken := left[:n]
		left = left[n:]
		return taken
	}
	var d draft
	d.readHead(take(recordTag))
	d.readCommand(take(commandTag))
	d.readEnv(take(envTag))
	d.Materials = d.readFiles(materialTag, take(materialTag))
	d.Products = d.readFiles(productTag, take(productTag))
	d.require(len(left) == 0)
	return d
}

// require notes that d is malformed if its lines are not well formed, and returns whether they are.
func (d *draft) require(formed bool) bool {
	d.malformed = d.malformed || !formed
	return formed
}

func (d *draft) readHead(lines [][]string) {
	if !d.require(len(lines) == 1 && len(lines[0]) == wordsOfHead) {
		return
	}
	words := lines[0]
	at, ok := document.ParseNumber(words[4])
	d.require(ok)
	d.Run, d.Scope, d.Step, d.At = words[1], words[2], words[3], at
}

func (d *draft) readCommand(lines [][]string) {
	if d.require(len(lines) == 1) {
		d.Command = lines[0][1:]
	}
}

func (d *draft) readEnv(lines [][]string) {
	for _, words := range lines {
		if d.require(len(words) == wordsOfVariable) {
			d.Env = append(d.Env, api.Variable{Name: words[1], Value: words[2]})
		}
	}
}

// readFiles returns the snapshot of these lines; none if they have another form or it is not valid.
func (d *draft) readFiles(tag string, lines [][]string) []api.Entry {
	s, e := snapshot.Read(tag, lines)
	d.require(e != api.ErrSyntax)
	d.invalid = d.invalid || e == api.ErrInvalid
	return s
}
