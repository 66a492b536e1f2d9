package layout

import (
	"math"

	"admission/api"
	"admission/document"
	"admission/rules"
)

// The first words of the lines of a layout.
const (
	layoutWord    = "layout"
	stepWord      = "step"
	delegateWord  = "delegate"
	commandWord   = "command"
	materialsWord = "materials"
	productsWord  = "products"
)

// The numbers of words that lines have after the first one. A line of a step goes on with its owners.
const (
	wordsOfLayout = 5
	wordsOfStep   = 2
)

// Encode returns the encoded form of l.
func Encode(l api.Layout) ([]byte, api.Errno) {
	if !Valid(l) {
		return nil, api.ErrInvalid
	}
	lines := [][]string{{layoutWord, l.Name, document.Number(l.Version), document.Number(l.Expires), l.Run, l.Scope}}
	for _, s := range l.Steps {
		head := []string{headWord(s.Delegated), s.Name, document.Number(int64(s.Threshold))}
		lines = append(lines, append(head, s.By...))
		lines = append(lines, append([]string{commandWord}, s.Command...))
		lines = append(lines, ruleLines(materialsWord, s.Materials)...)
		lines = append(lines, ruleLines(productsWord, s.Products)...)
	}
	return document.Encode(lines)
}

func headWord(delegated bool) string {
	if delegated {
		return delegateWord
	}
	return stepWord
}

func ruleLines(first string, l []api.Rule) [][]string {
	var lines [][]string
	for _, r := range l {
		lines = append(lines, append([]string{first}, rules.Words(r)...))
	}
	return lines
}

// Decode returns the valid layout whose encoded form is b.
func Decode(b []byte) (api.Layout, api.Errno) {
	lines, e := document.Decode(b)
	if e != api.OK {
		return api.Layout{}, e
	}
	r := reader{left: lines}
	l := r.layout()
	switch {
	case r.bad:
		return api.Layout{}, api.ErrSyntax
	case !Valid(l):
		return api.Layout{}, api.ErrInvalid
	}
	return l, api.OK
}

// A reader has the lines that are still to be read, and notes whether one was missing or of another form.
type reader struct {
	left [][]string
	bad  bool
}

// layout reads all lines.
func (r *reader) layout() api.Layout {
	words := r.line(layoutWord, wordsOfLayout)
	r.require(len(words) == wordsOfLayout)
	l := api.Layout{Name: words[0], Version: r.number(words[1]), Expires: r.number(words[2]), Run: words[3], Scope: words[4]}
	for len(r.left) > 0 && !r.bad {
		l.Steps = append(l.Steps, r.step())
	}
	return l
}

// step reads the lines of a step.
func (r *reader) step() api.StepSpec {
	delegated := r.next(delegateWord)
	words := r.line(headWord(delegated), wordsOfStep)
	return api.StepSpec{
		Name:      words[0],
		Delegated: delegated,
		Threshold: r.size(words[1]),
		By:        words[wordsOfStep:],
		Command:   r.line(commandWord, 0),
		Materials: r.rules(materialsWord),
		Products:  r.rules(productsWord),
	}
}

// rules reads the next lines that begin with this word.
func (r *reader) rules(first string) []api.Rule {
	var l []api.Rule
	for r.next(first) {
		rule, ok := rules.Read(r.line(first, 0))
		r.require(ok)
		l = append(l, rule)
	}
	return l
}

// next reports whether the next line begins with this word.
func (r *reader) next(first string) bool { return len(r.left) > 0 && r.left[0][0] == first }

// line reads the next line, which begins with this word, and returns the other ones, of which there are at least n. Words that are missing are empty.
func (r *reader) line(first string, n int) []string {
	if !r.next(first) || len(r.left[0]) <= n {
		r.bad = true
		return make([]string, n)
	}
	words := r.left[0][1:]
	r.left = r.left[1:]
	return words
}

func (r *reader) number(word string) int64 {
	n, ok := document.ParseNumber(word)
	r.require(ok)
	return n
}

// size returns the number of a word as an int. An int may have 32 bits; numbers that it might not hold are too great for every size, and so is what they become.
func (r *reader) size(word string) int { return int(min(r.number(word), math.MaxInt32)) }

func (r *reader) require(formed bool) { r.bad = r.bad || !formed }
