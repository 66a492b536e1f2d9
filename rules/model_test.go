package rules_test

import (
	"crypto/sha256"
	"fmt"
	"regexp"
	"slices"
	"strings"
	"testing"

	"admission/api"
)

// The model of the chapter, from its text and apart from the package.

const component = `(?:[^/.\x00][^/\x00]*|\.[^/.\x00][^/\x00]*|\.\.[^/\x00]+)`

var (
	nameForm = regexp.MustCompile(`\A[a-z0-9][a-z0-9._-]{0,63}\z`)
	pathForm = regexp.MustCompile(`\A` + component + `(?:/` + component + `)*\z`)
)

// The words of the kinds, in the order of their numbers.
var kindWords = []string{"match", "create", "modify", "delete", "allow", "disallow", "require"}

// latin returns a text with a letter for each byte of s, because the forms are about letters.
func latin(s string) string {
	var out []rune
	for _, c := range []byte(s) {
		out = append(out, rune(c))
	}
	return string(out)
}

func isPath(s string) bool { return len(s) <= 200 && pathForm.MatchString(latin(s)) }

func isDirectory(s string) bool { return s == "" || isPath(s) }

// patternForms keeps the forms of patterns, of which the tests use few, many times.
var patternForms = map[string]*regexp.Regexp{}

// patternForm returns the form of the paths that p matches, nil if p is no pattern.
func patternForm(p string) *regexp.Regexp {
	if form, known := patternForms[p]; known {
		return form
	}
	patternForms[p] = newForm(p)
	return patternForms[p]
}

func newForm(p string) *regexp.Regexp {
	if p == "" || len(p) > 200 || strings.Contains(p, "\x00") {
		return nil
	}
	out := `\A(?s:`
	for p != "" {
		n := 1
		switch {
		case p == `\`:
			return nil
		case p[0] == '\\':
			n = 2
			out += regexp.QuoteMeta(latin(p[1:2]))
		case strings.HasPrefix(p, "**"):
			n = 2
			out += `.*`
		case p[0] == '*':
			out += `[^/]*`
		case p[0] == '?':
			out += `[^/]`
		default:
			out += regexp.QuoteMeta(latin(p[:1]))
		}
		p = p[n:]
	}
	return regexp.MustCompile(out + `)\z`)
}

func modelMatches(p, path string) bool {
	form := patternForm(p)
	return form != nil && isPath(path) && form.MatchString(latin(path))
}

func modelValid(r api.Rule) bool {
	if r.Kind < 1 || r.Kind > 7 || patternForm(r.Pattern) == nil {
		return false
	}
	if r.Kind == 1 {
		return nameForm.MatchString(r.From) && isDirectory(r.In) && isDirectory(r.To)
	}
	return r.From == "" && r.In == "" && r.To == "" && !r.Products
}

func modelWords(r api.Rule) []string {
	switch {
	case !modelValid(r):
		return nil
	case r.Kind == 1 && r.Products:
		return []string{"match", r.Pattern, r.From, "products", r.In, r.To}
	case r.Kind == 1:
		return []string{"match", r.Pattern, r.From, "materials", r.In, r.To}
	}
	return []string{kindWords[r.Kind-1], r.Pattern}
}

func modelRead(words []string) (api.Rule, bool) {
	if len(words) < 2 {
		return api.Rule{}, false
	}
	r := api.Rule{Kind: slices.Index(kindWords, words[0]) + 1, Pattern: words[1]}
	formed := len(words) == 2 && r.Kind != 1
	if r.Kind == 1 && len(words) == 6 {
		formed = words[3] == "products" || words[3] == "materials"
		r.From, r.Products, r.In, r.To = words[2], words[3] == "products", words[4], words[5]
	}
	if !formed || !modelValid(r) {
		return api.Rule{}, false
	}
	return r, true
}

// firsts returns the Digest of the first entry with each path.
func firsts(s []api.Entry) map[string]api.Digest {
	out := map[string]api.Digest{}
	for _, x := range slices.Backward(s) {
		out[x.Path] = x.Digest
	}
	return out
}

func sideOf(l api.Link, products bool) []api.Entry {
	if products {
		return l.Products
	}
	return l.Materials
}

// modelState returns by which kind of rule a path of self is removed, 0 if by none.
func modelState(self api.Link, path string) int {
	before, consumed := firsts(self.Materials)[path]
	after, produced := firsts(self.Products)[path]
	switch {
	case !consumed && produced:
		return 2
	case consumed && produced && before != after:
		return 3
	case consumed && !produced:
		return 4
	}
	return 0
}

// modelShared reports whether the MatchRule r removes a path with this Digest.
func modelShared(r api.Rule, path string, d api.Digest, done []api.Link) bool {
	if r.In != "" && !strings.HasPrefix(path, r.In+"/") || !isPath(path) {
		return false
	}
	rest := path
	if r.In != "" {
		rest = path[len(r.In)+1:]
	}
	there := rest
	if r.To != "" {
		there = r.To + "/" + rest
	}
	if !modelMatches(r.Pattern, rest) || !isPath(there) {
		return false
	}
	for _, l := range done {
		if l.Step == r.From {
			theirs, found := firsts(sideOf(l, r.Products))[there]
			return found && theirs == d
		}
	}
	return false
}

// modelApply marks what is removed, where the package makes the queue shorter.
func modelApply(l []api.Rule, products bool, self api.Link, done []api.Link) api.RuleResult {
	files := sideOf(self, products)
	removed := make([]bool, len(files))
	end := func(failed int, path string) api.RuleResult {
		out := api.RuleResult{Failed: failed, Path: path}
		for i, x := range files {
			if !removed[i] {
				out.Left = append(out.Left, x.Path)
			}
		}
		return out
	}
	for i, r := range l {
		if !modelValid(r) {
			return end(i, "")
		}
		concerned := false
		for j, x := range files {
			switch {
			case removed[j]:
			case r.Kind == 1:
				removed[j] = modelShared(r, x.Path, firsts(files)[x.Path], done)
			case !modelMatches(r.Pattern, x.Path):
			case r.Kind < 5:
				removed[j] = modelState(self, x.Path) == r.Kind
			case r.Kind == 5:
				removed[j] = true
			case r.Kind == 6:
				return end(i, x.Path)
			case r.Kind == 7:
				concerned = true
			}
		}
		if r.Kind == 7 && !concerned {
			return end(i, "")
		}
	}
	return end(-1, "")
}

// some returns a Digest for each number; 0 stands for the zero Digest.
func some(n string) api.Digest {
	if n == "0" {
		return api.Digest{}
	}
	return sha256.Sum256([]byte(n))
}

// files returns files, each of them written as its path, '=' and the number of its Digest.
func files(words ...string) []api.Entry {
	var s []api.Entry
	for _, w := range words {
		i := strings.LastIndex(w, "=")
		s = append(s, api.Entry{Path: w[:i], Digest: some(w[i+1:])})
	}
	return s
}

// link returns a link with the files of two lists of words.
func link(step, materials, products string) api.Link {
	return api.Link{Step: step, Materials: files(strings.Fields(materials)...), Products: files(strings.Fields(products)...)}
}

// rule returns the rule of words, valid or not, which are separated by spaces; "~" stands for the empty word.
func rule(text string) api.Rule {
	words := strings.Split(text, " ")
	for i, w := range words {
		if w == "~" {
			words[i] = ""
		}
	}
	r := api.Rule{Kind: slices.Index(kindWords, words[0]) + 1, Pattern: words[1]}
	if r.Kind == 1 {
		r.From, r.Products, r.In, r.To = words[2], words[3] == "products", words[4], words[5]
	}
	return r
}

// list returns the rules of texts, which are separated by semicolons.
func list(texts string) []api.Rule {
	var l []api.Rule
	for text := range strings.SplitSeq(texts, "; ") {
		if text != "" {
			l = append(l, rule(text))
		}
	}
	return l
}

// changed returns r after a change.
func changed(r api.Rule, change func(r *api.Rule)) api.Rule {
	change(&r)
	return r
}

// named is a rule with a name.
type named struct {
	name string
	r    api.Rule
}

func equal(a, b api.RuleResult) bool {
	return slices.Equal(a.Left, b.Left) && a.Failed == b.Failed && a.Path == b.Path
}

// expectResult checks a result of Apply.
func expectResult(t *testing.T, name string, got, want api.RuleResult) {
	t.Helper()
	if !equal(got, want) {
		t.Errorf("%.300s: left %.300q, failed %d, path %.100q; want %.300q, %d, %.100q", name, got.Left, got.Failed, got.Path, want.Left, want.Failed, want.Path)
	}
}

// every calls visit with every list of at most n of the words.
func every(words []string, n int, visit func([]string)) {
	last := [][]string{nil}
	for range n + 1 {
		var next [][]string
		for _, l := range last {
			visit(l)
			for _, w := range words {
				next = append(next, append(slices.Clip(l), w))
			}
		}
		last = next
	}
}

// marked returns a copy of l with memory behind its length that is filled with x.
func marked[T any](l []T, x T) []T {
	out := slices.Grow(slices.Clone(l), 3)
	all := out[:cap(out)]
	for i := len(out); i < cap(out); i++ {
		all[i] = x
	}
	return out
}

// unmarked reports whether the memory behind the length of l is not filled with x any more.
func unmarked[T comparable](l []T, x T) bool {
	return slices.ContainsFunc(l[len(l):cap(l)], func(y T) bool { return y != x })
}

// numbered returns n words in ascending order.
func numbered(form string, n int) []string {
	var out []string
	for i := range n {
		out = append(out, fmt.Sprintf(form, i))
	}
	return out
}
