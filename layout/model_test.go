package layout_test

import (
	"cmp"
	"fmt"
	"math"
	"regexp"
	"slices"
	"strconv"
	"strings"
	"testing"

	"admission/api"
)

// The model of the chapter, from its text and apart from the package.

const (
	maxNumber = 1099511627776
	oneName   = `[a-z0-9][a-z0-9._-]{0,63}`
	component = `(?:[^/.\x00][^/\x00]*|\.[^/.\x00][^/\x00]*|\.\.[^/\x00]+)`
)

var (
	nameForm    = regexp.MustCompile(`\A` + oneName + `\z`)
	scopeForm   = regexp.MustCompile(`\A` + oneName + `(?:/` + oneName + `){0,3}\z`)
	pathForm    = regexp.MustCompile(`(?s)\A(?:` + component + `(?:/` + component + `)*)?\z`)
	patternForm = regexp.MustCompile(`(?s)\A(?:[^\\\x00]|\\[^\x00])+\z`)
)

// The words of the kinds, in the order of their numbers.
var kindWords = []string{"match", "create", "modify", "delete", "allow", "disallow", "require"}

// ascending reports whether l consists of names in ascending order without equal elements.
func ascending(l []string) bool {
	for _, s := range l {
		if !nameForm.MatchString(s) {
			return false
		}
	}
	return slices.Equal(l, slices.Compact(slices.Sorted(slices.Values(l))))
}

// latin returns a text with a letter for each byte of s, because the forms are about letters.
func latin(s string) string {
	var out []rune
	for _, c := range []byte(s) {
		out = append(out, rune(c))
	}
	return string(out)
}

func modelRule(r api.Rule) bool {
	if r.Kind < 1 || r.Kind > 7 || len(r.Pattern) > 200 || !patternForm.MatchString(latin(r.Pattern)) {
		return false
	}
	if r.Kind > 1 {
		return r.From == "" && r.In == "" && r.To == "" && !r.Products
	}
	return nameForm.MatchString(r.From) && len(r.In) <= 200 && pathForm.MatchString(latin(r.In)) && len(r.To) <= 200 && pathForm.MatchString(latin(r.To))
}

func modelStep(s api.StepSpec) bool {
	for _, word := range s.Command {
		if len(word) > 200 {
			return false
		}
	}
	for _, r := range slices.Concat(s.Materials, s.Products) {
		if !modelRule(r) {
			return false
		}
	}
	if len(s.By) > 16 || s.Threshold < 1 || s.Threshold > len(s.By) || len(s.Command) > 16 || s.Delegated && len(s.Command) != 0 {
		return false
	}
	return nameForm.MatchString(s.Name) && ascending(s.By) && len(s.Materials) <= 32 && len(s.Products) <= 32
}

func modelValid(l api.Layout) bool {
	place := l.Run == "" && l.Scope == "" || nameForm.MatchString(l.Run) && scopeForm.MatchString(l.Scope)
	if !place || !nameForm.MatchString(l.Name) || l.Version < 1 || l.Version > maxNumber || l.Expires < 0 || l.Expires > maxNumber {
		return false
	}
	for i, s := range l.Steps {
		if !modelStep(s) || modelIndex(l, s.Name) != i {
			return false
		}
		for _, r := range slices.Concat(s.Materials, s.Products) {
			if r.Kind == 1 && (modelIndex(l, r.From) < 0 || modelIndex(l, r.From) >= i) {
				return false
			}
		}
	}
	return 1 <= len(l.Steps) && len(l.Steps) <= 16
}

// modelIndex returns the index of the first step with this name, -1 if there is none.
func modelIndex(l api.Layout, name string) int {
	for i, s := range l.Steps {
		if s.Name == name {
			return i
		}
	}
	return -1
}

func modelScopes(l api.Layout) []string {
	var out []string
	for _, s := range l.Steps {
		switch {
		case s.Delegated && l.Scope == "":
			out = append(out, s.Name)
		case s.Delegated:
			out = append(out, l.Scope+"/"+s.Name)
		}
	}
	return out
}

func modelFeeds(l api.Layout, step string) []string {
	i := modelIndex(l, step)
	var out []string
	for j, s := range l.Steps {
		used := i >= 0 && slices.ContainsFunc(slices.Concat(l.Steps[i].Materials, l.Steps[i].Products), func(r api.Rule) bool { return r.Kind == 1 && r.From == s.Name })
		if used && modelIndex(l, s.Name) == j {
			out = append(out, s.Name)
		}
	}
	return out
}

func modelWord(w string) string {
	var out strings.Builder
	for _, c := range []byte(w) {
		if 0x21 <= c && c <= 0x7d && c != '%' {
			out.WriteByte(c)
		} else {
			fmt.Fprintf(&out, "%%%02X", c)
		}
	}
	return cmp.Or(out.String(), "~")
}

// modelLine returns the encoded form of a line.
func modelLine(words ...string) string {
	var out []string
	for _, w := range words {
		out = append(out, modelWord(w))
	}
	return strings.Join(out, " ") + "\n"
}

// ruleWords returns the words of r, which may not be valid but has a kind.
func ruleWords(r api.Rule) []string {
	words := []string{kindWords[r.Kind-1], r.Pattern}
	switch {
	case r.Kind == 1 && r.Products:
		words = append(words, r.From, "products", r.In, r.To)
	case r.Kind == 1:
		words = append(words, r.From, "materials", r.In, r.To)
	}
	return words
}

// modelText returns the encoded form of l.
func modelText(l api.Layout) string {
	var out strings.Builder
	line := func(words ...string) { out.WriteString(modelLine(words...)) }
	line("layout", l.Name, fmt.Sprint(l.Version), fmt.Sprint(l.Expires), l.Run, l.Scope)
	for _, s := range l.Steps {
		first := "step"
		if s.Delegated {
			first = "delegate"
		}
		line(append([]string{first, s.Name, fmt.Sprint(s.Threshold)}, s.By...)...)
		line(append([]string{"command"}, s.Command...)...)
		for _, r := range s.Materials {
			line(append([]string{"materials"}, ruleWords(r)...)...)
		}
		for _, r := range s.Products {
			line(append([]string{"products"}, ruleWords(r)...)...)
		}
	}
	return out.String()
}

// The forms of words, numbers and rules.
const (
	wordForm   = `(?:~|(?:[!-$&-}]|%(?:[01][0-9A-F]|20|25|7[EF]|[89A-F][0-9A-F]))+)`
	numberForm = `(?:0|[1-9][0-9]*)`
	ruleForm   = `(?:match ` + wordForm + ` ` + wordForm + ` (?:products|materials) ` + wordForm + ` ` + wordForm + `|(?:create|modify|delete|allow|disallow|require) ` + wordForm + `)`
)

var textForm = regexp.MustCompile(`\Alayout ` + wordForm + ` ` + numberForm + ` ` + numberForm + ` ` + wordForm + ` ` + wordForm + `\n` +
	`(?:(?:step|delegate) ` + wordForm + ` ` + numberForm + `(?: ` + wordForm + `)*\n` +
	`command(?: ` + wordForm + `)*\n` +
	`(?:materials ` + ruleForm + `\n)*` +
	`(?:products ` + ruleForm + `\n)*)*\z`)

// modelUnword returns the word of a form.
func modelUnword(form string) string {
	if form == "~" {
		return ""
	}
	var out strings.Builder
	for len(form) > 0 {
		c, n := uint64(form[0]), 1
		if c == '%' {
			c, _ = strconv.ParseUint(form[1:3], 16, 8)
			n = 3
		}
		out.WriteByte(byte(c))
		form = form[n:]
	}
	return out.String()
}

// modelRead returns the layout of a text, and the error of reading it.
func modelRead(text string) (api.Layout, api.Errno) {
	if len(text) > 262144 {
		return api.Layout{}, api.ErrLimit
	}
	if !textForm.MatchString(text) || strings.Count(text, "\n") > 1000 {
		return api.Layout{}, api.ErrSyntax
	}
	var l api.Layout
	good := true
	number := func(word string) int64 {
		n, err := strconv.ParseInt(word, 10, 64)
		good = good && err == nil && n <= maxNumber
		return n
	}
	for line := range strings.Lines(text) {
		words := strings.Split(strings.TrimSuffix(line, "\n"), " ")
		for i, w := range words {
			words[i] = modelUnword(w)
			good = good && len(words[i]) <= 32768 && len(words) <= 120
		}
		last := max(len(l.Steps)-1, 0)
		switch words[0] {
		case "layout":
			l = api.Layout{Name: words[1], Version: number(words[2]), Expires: number(words[3]), Run: words[4], Scope: words[5]}
		case "step", "delegate":
			l.Steps = append(l.Steps, api.StepSpec{Name: words[1], Delegated: words[0] == "delegate", Threshold: int(number(words[2])), By: words[3:]})
		case "command":
			l.Steps[last].Command = words[1:]
		case "materials":
			l.Steps[last].Materials = append(l.Steps[last].Materials, ruleOf(words[1:]))
			good = good && modelRule(ruleOf(words[1:]))
		case "products":
			l.Steps[last].Products = append(l.Steps[last].Products, ruleOf(words[1:]))
			good = good && modelRule(ruleOf(words[1:]))
		}
	}
	switch {
	case !good:
		return api.Layout{}, api.ErrSyntax
	case !modelValid(l):
		return api.Layout{}, api.ErrInvalid
	}
	return l, api.OK
}

// ruleOf returns the rule of words that have its form.
func ruleOf(words []string) api.Rule {
	r := api.Rule{Kind: slices.Index(kindWords, words[0]) + 1, Pattern: words[1]}
	if r.Kind == 1 {
		r.From, r.Products, r.In, r.To = words[2], words[3] == "products", words[4], words[5]
	}
	return r
}

// list returns the rules of texts, which are separated by semicolons. Their words are separated by spaces; "~" stands for the empty word.
func list(texts string) []api.Rule {
	var l []api.Rule
	for text := range strings.SplitSeq(texts, "; ") {
		words := strings.Split(text, " ")
		for i, w := range words {
			if w == "~" {
				words[i] = ""
			}
		}
		l = append(l, ruleOf(words))
	}
	return l
}

// match returns a rule that has files from a step.
func match(from string) api.Rule {
	return api.Rule{Kind: api.MatchRule, Pattern: "**", From: from, Products: true}
}

// step returns a step that one of its owners performs.
func step(name string, by ...string) api.StepSpec {
	return api.StepSpec{Name: name, Threshold: 1, By: by}
}

// sample returns a layout of a delegated step of one run.
func sample() api.Layout {
	return api.Layout{
		Name: "app", Version: 3, Expires: 70, Run: "run-1", Scope: "ship/pack",
		Steps: []api.StepSpec{
			{Name: "fetch", Threshold: 1, By: []string{"anna"}, Products: list("create src/*; require src/main.c; disallow **")},
			{Name: "build", Threshold: 2, By: []string{"anna", "bert", "cara"}, Command: []string{"make", "", "-o a", "step"}, Materials: list("match ** fetch products ~ ~; disallow **"), Products: list("match *.c fetch materials src lib; allow out/**")},
			{Name: "check", Delegated: true, Threshold: 1, By: []string{"anna", "dora"}, Materials: list("match ** build products out ~; match * fetch products ~ ~; match ? build materials ~ in"), Products: list("modify a; delete b")},
			{Name: "sign", Threshold: 3, By: []string{"0", "bert", "x-y.z"}, Command: []string{"sign"}, Products: list("match * check products ~ ~")},
		},
	}
}

// smallest returns the layout with the least of everything.
func smallest() api.Layout {
	return api.Layout{Name: "l", Version: 1, Steps: []api.StepSpec{step("s", "o")}}
}

// numbered returns n texts in ascending order.
func numbered(prefix string, n int) []string {
	var out []string
	for i := range n {
		out = append(out, fmt.Sprintf("%s%03d", prefix, i))
	}
	return out
}

// ruleList returns n rules, each of which is one of a step without sources.
func ruleList(prefix string, n int) []api.Rule {
	var l []api.Rule
	for i, s := range numbered(prefix, n) {
		l = append(l, api.Rule{Kind: 2 + i%6, Pattern: s})
	}
	return l
}

// many returns a layout with so many of everything.
func many(steps, by, command, materials, products int) api.Layout {
	l := api.Layout{Name: "many", Version: maxNumber, Expires: maxNumber, Run: "run", Scope: "a/b/c/d"}
	for _, name := range numbered("step", steps) {
		l.Steps = append(l.Steps, api.StepSpec{
			Name: name, Threshold: max(1, by), By: numbered("owner", by), Command: numbered("word", command),
			Materials: ruleList("m/", materials), Products: ruleList("p/", products),
		})
	}
	return l
}

// chained returns a layout each of whose steps has files from the one before.
func chained(n int) api.Layout {
	l := many(n, 1, 0, 0, 0)
	for i := 1; i < n; i++ {
		l.Steps[i].Materials = []api.Rule{match(l.Steps[i-1].Name)}
	}
	return l
}

// copied returns l in memory of its own.
func copied(l api.Layout) api.Layout {
	l.Steps = slices.Clone(l.Steps)
	for i := range l.Steps {
		s := &l.Steps[i]
		s.By, s.Command, s.Materials, s.Products = slices.Clone(s.By), slices.Clone(s.Command), slices.Clone(s.Materials), slices.Clone(s.Products)
	}
	return l
}

// changed returns l after a change, in memory of its own.
func changed(l api.Layout, change func(l *api.Layout)) api.Layout {
	l = copied(l)
	change(&l)
	return l
}

// numbers returns numbers around all limits.
func numbers() []int64 {
	l := []int64{math.MinInt64, math.MinInt64 + 1, -maxNumber, math.MinInt32, -2, -1, 0, 1, 2, 3, 4, 16, 17, 64, 65, 255, 256, math.MaxInt32, math.MaxInt32 + 1, 1 << 32, 1<<32 + 1, 1<<32 + 2}
	return append(l, maxNumber-1, maxNumber, maxNumber+1, maxNumber+2, 2*maxNumber, math.MaxInt64-1, math.MaxInt64)
}

// oddTexts returns texts of all sorts.
func oddTexts() []string {
	return []string{"", "a", "b", "build", "a/b", "a/b/c", "a/b/c/d", "a/b/c/d/e", "/", "/a", "a/", "//", "A", "a/B", " ", "a b", "a\n", "\x00", "\xff", "é", "~", ".", "..", ".a", "-a", "_a", "a.", "0", strings.Repeat("n", 64), strings.Repeat("n", 65), strings.Repeat("n", 64) + "/" + strings.Repeat("n", 64), strings.Repeat("n", 65) + "/n", strings.Repeat("/", 1000), strings.Repeat("n", 1<<20)}
}

func equalSteps(a, b api.StepSpec) bool {
	lists := slices.Equal(a.By, b.By) && slices.Equal(a.Command, b.Command) && slices.Equal(a.Materials, b.Materials) && slices.Equal(a.Products, b.Products)
	return lists && a.Name == b.Name && a.Delegated == b.Delegated && a.Threshold == b.Threshold
}

func equal(a, b api.Layout) bool {
	return a.Name == b.Name && a.Version == b.Version && a.Expires == b.Expires && a.Run == b.Run && a.Scope == b.Scope && slices.EqualFunc(a.Steps, b.Steps, equalSteps)
}

// expect checks a result that is a layout and an error: without the error it is want, with an error it is zero.
func expect(t *testing.T, name string, got api.Layout, errno api.Errno, want api.Layout, wantErrno api.Errno) {
	t.Helper()
	if wantErrno != api.OK {
		want = api.Layout{}
	}
	if errno != wantErrno || !equal(got, want) {
		t.Errorf("%.200s: %d %.300q, want %d %.300q", name, errno, fmt.Sprint(got), wantErrno, fmt.Sprint(want))
	}
}

// named is a layout with a name.
type named struct {
	name string
	l    api.Layout
}

// permutations calls visit with every order of l.
func permutations[T any](l []T, visit func([]T)) {
	if len(l) == 0 {
		visit(nil)
		return
	}
	for i := range l {
		rest := slices.Delete(slices.Clone(l), i, i+1)
		permutations(rest, func(tail []T) { visit(append([]T{l[i]}, tail...)) })
	}
}

// marked returns a copy of l in which the memory behind its length is filled with x.
func marked[T any](l []T, x T) []T {
	out := slices.Grow(slices.Clone(l), 3)
	all := out[:cap(out)]
	for i := len(out); i < cap(out); i++ {
		all[i] = x
	}
	return out
}

// unmarked reports whether the memory behind the length of l is not filled with x any more.
func unmarked[T comparable](l []T, x T) bool {
	return slices.ContainsFunc(l[len(l):cap(l)], func(y T) bool { return y != x })
}
