package agreement_test

import (
	"fmt"
	"slices"
	"strings"
	"testing"

	"admission/agreement"
	"admission/api"
)

// The model of the chapter, from its text and apart from the package.

func modelSame(a, b api.Link) bool { return linkKey(a) == linkKey(b) }

// linkKey returns a text that two links have in common if they have the same files.
func linkKey(l api.Link) string { return fmt.Sprintf("%q %q", l.Materials, l.Products) }

func linkOfRecord(r api.Record) api.Link {
	return api.Link{Step: r.Step, Materials: r.Materials, Products: r.Products}
}

func modelEligible(spec api.StepSpec, l []api.Attested) []api.Attested {
	var out []api.Attested
	for _, x := range l {
		command := fmt.Sprintf("%q", spec.Command)
		if slices.Contains(spec.By, x.Owner) && x.Record.Step == spec.Name && (command == "[]" || command == fmt.Sprintf("%q", x.Record.Command)) {
			out = append(out, x)
		}
	}
	return out
}

// modelCamps looks for each owner in all records, where the package goes over the records.
func modelCamps(spec api.StepSpec, l []api.Attested) ([]api.Agreed, []string) {
	said := map[string]map[string]api.Link{}
	for _, x := range modelEligible(spec, l) {
		if said[x.Owner] == nil {
			said[x.Owner] = map[string]api.Link{}
		}
		k := linkOfRecord(x.Record)
		said[x.Owner][linkKey(k)] = k
	}
	var equivocators []string
	camps := map[string]api.Agreed{}
	for owner, links := range said {
		if len(links) > 1 {
			equivocators = append(equivocators, owner)
			continue
		}
		for key, k := range links {
			camps[key] = api.Agreed{Link: api.Link{Step: spec.Name, Materials: k.Materials, Products: k.Products}, Owners: append(camps[key].Owners, owner)}
		}
	}
	var out []api.Agreed
	for _, c := range camps {
		slices.Sort(c.Owners)
		out = append(out, c)
	}
	slices.SortFunc(out, func(a, b api.Agreed) int {
		if len(a.Owners) != len(b.Owners) {
			return len(b.Owners) - len(a.Owners)
		}
		return strings.Compare(a.Owners[0], b.Owners[0])
	})
	slices.Sort(equivocators)
	return out, equivocators
}

func modelDecide(spec api.StepSpec, l []api.Attested) (api.Agreed, api.Errno) {
	camps, equivocators := modelCamps(spec, l)
	var found []api.Agreed
	for _, c := range camps {
		if spec.Threshold >= 1 && len(c.Owners) >= spec.Threshold {
			found = append(found, c)
		}
	}
	switch len(found) {
	case 0:
		return api.Agreed{}, 10
	case 1:
		found[0].Equivocators = equivocators
		return found[0], 0
	}
	return api.Agreed{}, 11
}

// files returns a file for each letter of a text. A capital letter stands for another content of the file with the small one.
func files(text string) []api.Entry {
	var s []api.Entry
	for _, c := range []byte(text) {
		x := api.Entry{Path: string(c), Digest: api.Digest{30: 1}}
		if 'A' <= c && c <= 'Z' {
			x = api.Entry{Path: string(c + 'a' - 'A'), Digest: api.Digest{30: 2}}
		}
		s = append(s, x)
	}
	return s
}

// link returns the link of the step build with the files of a text "materials>products".
func link(text string) api.Link {
	materials, products, _ := strings.Cut(text, ">")
	return api.Link{Step: "build", Materials: files(materials), Products: files(products)}
}

// says returns a record of the step build that an owner signed, with the link of a text.
func says(owner, text string) api.Attested {
	k := link(text)
	return api.Attested{Owner: owner, Record: api.Record{Run: "run-1", Step: k.Step, At: 5, Command: []string{"make", "all"}, Materials: k.Materials, Products: k.Products}}
}

// list returns the records of words "owner:materials>products", which are separated by spaces.
func list(words string) []api.Attested {
	var l []api.Attested
	for word := range strings.FieldsSeq(words) {
		owner, text, _ := strings.Cut(word, ":")
		l = append(l, says(owner, text))
	}
	return l
}

// step returns the step build, which a, b, c, d and e may perform.
func step(threshold int) api.StepSpec {
	return api.StepSpec{Name: "build", Threshold: threshold, By: []string{"a", "b", "c", "d", "e"}, Command: []string{"make", "all"}}
}

// camps returns the camps of words "owner,owner:materials>products", which are separated by spaces.
func camps(words string) []api.Agreed {
	var l []api.Agreed
	for word := range strings.FieldsSeq(words) {
		owners, text, _ := strings.Cut(word, ":")
		l = append(l, api.Agreed{Link: link(text), Owners: strings.Split(owners, ",")})
	}
	return l
}

// changed returns x after a change of its record.
func changed(x api.Attested, change func(r *api.Record)) api.Attested {
	change(&x.Record)
	return x
}

// numbered returns n words in ascending order.
func numbered(first string, n int) []string {
	var out []string
	for i := range n {
		out = append(out, fmt.Sprintf("%s%05d", first, i))
	}
	return out
}

// oddTexts returns texts of all sorts.
func oddTexts() []string {
	return []string{"", "a", "b", "A", "aa", "a ", " a", " ", "a/b", "a/", "/", ".", "\x00", "a\x00", "\xff", "\xfe", "é", "e\u0301", "\n", "~", "build", "Build", "build ", strings.Repeat("n", 64), strings.Repeat("n", 65), strings.Repeat("n", 100000)}
}

func equalRecords(a, b api.Record) bool {
	lists := slices.Equal(a.Command, b.Command) && slices.Equal(a.Env, b.Env) && slices.Equal(a.Materials, b.Materials) && slices.Equal(a.Products, b.Products)
	return lists && a.Run == b.Run && a.Scope == b.Scope && a.Step == b.Step && a.At == b.At
}

func equalAttested(a, b api.Attested) bool {
	return a.Owner == b.Owner && equalRecords(a.Record, b.Record)
}

func equalAgreed(a, b api.Agreed) bool {
	files := slices.Equal(a.Link.Materials, b.Link.Materials) && slices.Equal(a.Link.Products, b.Link.Products)
	return files && a.Link.Step == b.Link.Step && slices.Equal(a.Owners, b.Owners) && slices.Equal(a.Equivocators, b.Equivocators)
}

// expectEligible checks Eligible, and that it is what the model says.
func expectEligible(t *testing.T, name string, spec api.StepSpec, l, want []api.Attested) {
	t.Helper()
	if got := agreement.Eligible(spec, l); !slices.EqualFunc(got, want, equalAttested) {
		t.Errorf("%.200s: eligible %.300q, want %.300q", name, fmt.Sprint(got), fmt.Sprint(want))
	}
	if !slices.EqualFunc(modelEligible(spec, l), want, equalAttested) {
		t.Errorf("%.200s: the model does not say %.300q", name, fmt.Sprint(want))
	}
}

// expectCamps checks Camps, and that it is what the model says.
func expectCamps(t *testing.T, name string, spec api.StepSpec, l []api.Attested, want []api.Agreed, equivocators ...string) {
	t.Helper()
	got, others := agreement.Camps(spec, l)
	if !slices.EqualFunc(got, want, equalAgreed) || !slices.Equal(others, equivocators) {
		t.Errorf("%.200s: camps %.300q and %.100q, want %.300q and %.100q", name, fmt.Sprint(got), others, fmt.Sprint(want), equivocators)
	}
	got, others = modelCamps(spec, l)
	if !slices.EqualFunc(got, want, equalAgreed) || !slices.Equal(others, equivocators) {
		t.Errorf("%.200s: the model says %.300q and %.100q", name, fmt.Sprint(got), others)
	}
}

// expectDecision checks Decide, and that it is what the model says. Together with an error there is no camp.
func expectDecision(t *testing.T, name string, spec api.StepSpec, l []api.Attested, want api.Agreed, errno api.Errno) {
	t.Helper()
	if got, e := agreement.Decide(spec, l); e != errno || !equalAgreed(got, want) {
		t.Errorf("%.200s: %d %.300q, want %d %.300q", name, e, fmt.Sprint(got), errno, fmt.Sprint(want))
	}
	if got, e := modelDecide(spec, l); e != errno || !equalAgreed(got, want) {
		t.Errorf("%.200s: the model says %d %.300q", name, e, fmt.Sprint(got))
	}
}

// expectModel checks that each result for l is what the model says.
func expectModel(t *testing.T, name string, spec api.StepSpec, l []api.Attested) {
	t.Helper()
	expectEligible(t, name, spec, l, modelEligible(spec, l))
	want, equivocators := modelCamps(spec, l)
	expectCamps(t, name, spec, l, want, equivocators...)
	decided, errno := modelDecide(spec, l)
	expectDecision(t, name, spec, l, decided, errno)
}

// every calls visit with every list of at most n of the words.
func every(words []string, n int, visit func([]string)) {
	last := [][]string{nil}
	for range n + 1 {
		var next [][]string
		for _, l := range last {
			visit(l)
			for _, w := range words {
				next = append(next, append(slices.Clip(l), w))
			}
		}
		last = next
	}
}

// permutations calls visit with every order of l.
func permutations[T any](l []T, visit func([]T)) {
	if len(l) == 0 {
		visit(nil)
		return
	}
	for i := range l {
		rest := slices.Delete(slices.Clone(l), i, i+1)
		permutations(rest, func(tail []T) { visit(append([]T{l[i]}, tail...)) })
	}
}

// subsets returns every choice of words, as texts in which they are separated by spaces.
func subsets(words ...string) []string {
	var out []string
	for mask := range 1 << len(words) {
		var chosen []string
		for i, w := range words {
			if mask>>i&1 == 1 {
				chosen = append(chosen, w)
			}
		}
		out = append(out, strings.Join(chosen, " "))
	}
	return out
}

// marked returns a copy of l with memory behind its length that is filled with x.
func marked[T any](l []T, x T) []T {
	out := slices.Grow(slices.Clone(l), 3)
	all := out[:cap(out)]
	for i := len(out); i < cap(out); i++ {
		all[i] = x
	}
	return out
}

// unmarked reports whether the memory behind the length of l is not filled with x any more.
func unmarked[T comparable](l []T, x T) bool {
	return slices.ContainsFunc(l[len(l):cap(l)], func(y T) bool { return y != x })
}
