package layout_test

import (
	"fmt"
	"math"
	"slices"
	"strings"
	"sync"
	"testing"

	"admission/api"
	"admission/layout"
)

// expectValid checks Valid, and that it is what the model says.
func expectValid(t *testing.T, name string, l api.Layout, want bool) {
	t.Helper()
	if got := layout.Valid(l); got != want || modelValid(l) != want {
		t.Errorf("%.200s: %t, want %t and not %t", name, got, want, !want)
	}
}

// expectChange checks Valid of the sample after a change.
func expectChange(t *testing.T, name string, want bool, change func(l *api.Layout)) {
	t.Helper()
	expectValid(t, name, changed(sample(), change), want)
}

// validLayouts returns layouts of all sorts.
func validLayouts() []named {
	word, name := strings.Repeat("\xff", 200), strings.Repeat("n", 64)
	return append(variants(),
		named{"the sample", sample()},
		named{"the smallest one", smallest()},
		named{"many steps", many(16, 16, 16, 8, 8)},
		named{"many rules", many(10, 3, 0, 32, 32)},
		named{"a chain", chained(16)},
		named{"empty slices", changed(smallest(), func(l *api.Layout) {
			l.Steps[0].Command, l.Steps[0].Materials, l.Steps[0].Products = []string{}, []api.Rule{}, []api.Rule{}
		})},
		named{"a delegated step with an empty slice as command", changed(smallest(), func(l *api.Layout) { l.Steps[0].Delegated, l.Steps[0].Command = true, []string{} })},
		named{"long names", changed(sample(), func(l *api.Layout) {
			l.Name, l.Run, l.Scope = name, name, strings.Join([]string{name, name, name, name}, "/")
			l.Steps[3].Name, l.Steps[3].By[2] = name, "x"+name[1:]
		})},
		named{"long words", changed(sample(), func(l *api.Layout) {
			l.Steps[1].Command, l.Steps[0].Products[0].Pattern = slices.Repeat([]string{word}, 16), word
		})},
		named{"words like first words", changed(sample(), func(l *api.Layout) {
			l.Name, l.Run, l.Scope = "layout", "step", "delegate/command/materials/products"
			l.Steps[0].Name, l.Steps[1].Materials, l.Steps[2].Materials = "command", list("match command command materials command products"), list("match match build products ~ ~")
			l.Steps[1].Products = list("allow products; allow materials; allow step; allow delegate; allow command; allow layout")
			l.Steps[1].Command, l.Steps[1].By = []string{"layout", "step", "delegate", "command", "materials", "products"}, []string{"command", "materials", "step"}
		})},
	)
}

// variants returns layouts each of which differs from the sample and from the others.
func variants() []named {
	var out []named
	add := func(name string, change func(l *api.Layout)) {
		out = append(out, named{name, changed(sample(), change)})
	}
	add("another name", func(l *api.Layout) { l.Name = "lib" })
	add("the first version", func(l *api.Layout) { l.Version = 1 })
	add("the last version", func(l *api.Layout) { l.Version = maxNumber })
	add("expired at the beginning", func(l *api.Layout) { l.Expires = 0 })
	add("expired at the end", func(l *api.Layout) { l.Expires = maxNumber })
	add("numbers exchanged", func(l *api.Layout) { l.Version, l.Expires = l.Expires, l.Version })
	add("another run", func(l *api.Layout) { l.Run = "run-2" })
	add("the outer scope", func(l *api.Layout) { l.Scope = "ship" })
	add("a deeper scope", func(l *api.Layout) { l.Scope = "ship/pack/a/b" })
	add("a run for a name", func(l *api.Layout) { l.Run, l.Name = l.Name, l.Run })
	add("all runs", func(l *api.Layout) { l.Run, l.Scope = "", "" })
	for i := range sample().Steps {
		addStep := func(name string, change func(s *api.StepSpec)) {
			add(fmt.Sprintf("step %d with %s", i, name), func(l *api.Layout) { change(&l.Steps[i]) })
		}
		if i > 0 {
			add(fmt.Sprintf("the steps before step %d", i), func(l *api.Layout) { l.Steps = l.Steps[:i] })
			addStep("no command", func(s *api.StepSpec) { s.Delegated, s.Command = false, nil })
		}
		add(fmt.Sprintf("another step before step %d", i), func(l *api.Layout) { l.Steps = slices.Insert(l.Steps, i, step("more", "m")) })
		add(fmt.Sprintf("another delegated step after step %d", i), func(l *api.Layout) {
			l.Steps = slices.Insert(l.Steps, i+1, api.StepSpec{Name: "more", Delegated: true, Threshold: 1, By: []string{"m"}})
		})
		addStep("one more owner", func(s *api.StepSpec) { s.By = append(s.By, "xx") })
		addStep("other owners", func(s *api.StepSpec) { s.By = numbered("o", 16) })
		addStep("a longer owner", func(s *api.StepSpec) { s.By[len(s.By)-1] += "." })
		addStep("an empty word", func(s *api.StepSpec) { s.Delegated, s.Command = false, []string{""} })
		addStep("two empty words", func(s *api.StepSpec) { s.Delegated, s.Command = false, []string{"", ""} })
		addStep("words in a word", func(s *api.StepSpec) { s.Delegated, s.Command = false, []string{"a b\nc%20~"} })
		addStep("no material rules", func(s *api.StepSpec) { s.Materials = list("allow no") })
		addStep("no product rules", func(s *api.StepSpec) { s.Products = list("allow no") })
		addStep("one more material rule", func(s *api.StepSpec) { s.Materials = append(s.Materials, list("allow more")...) })
		addStep("one more product rule", func(s *api.StepSpec) { s.Products = append(s.Products, list("allow more")...) })
		addStep("a first material rule", func(s *api.StepSpec) { s.Materials = append(list("delete first"), s.Materials...) })
		addStep("a first product rule", func(s *api.StepSpec) { s.Products = append(list("delete first"), s.Products...) })
	}
	add("a smaller threshold", func(l *api.Layout) { l.Steps[3].Threshold = 2 })
	add("the least threshold", func(l *api.Layout) { l.Steps[3].Threshold = 1 })
	add("a greater threshold", func(l *api.Layout) { l.Steps[2].Threshold = 2 })
	add("another delegated step", func(l *api.Layout) { l.Steps[0].Delegated = true })
	add("a command for a delegated step", func(l *api.Layout) { l.Steps[2].Delegated, l.Steps[2].Command = false, []string{"delegate"} })
	for j, text := range []string{"match * fetch products ~ ~", "match * fetch materials ~ ~", "match * fetch products a ~", "match * fetch products ~ a", "match a fetch products ~ ~", "match * build products ~ ~", "create *", "modify *", "delete *", "allow *", "disallow *", "require *", "require **"} {
		add(fmt.Sprintf("material rule %d", j), func(l *api.Layout) { l.Steps[3].Materials = list(text) })
		add(fmt.Sprintf("product rule %d", j), func(l *api.Layout) { l.Steps[3].Products = list(text) })
	}
	return out
}

// invalidLayouts returns layouts each of which is not valid for one reason.
func invalidLayouts() []named {
	out := []named{{"the zero layout", api.Layout{}}}
	add := func(name string, change func(l *api.Layout)) {
		out = append(out, named{name, changed(sample(), change)})
	}
	for _, s := range noNames() {
		name := fmt.Sprintf(" %.20q of %d bytes", s, len(s))
		add("the name"+name, func(l *api.Layout) { l.Name = s })
		add("the run"+name, func(l *api.Layout) { l.Run = s })
		add("the scope"+name, func(l *api.Layout) { l.Scope = s })
		add("a scope within"+name, func(l *api.Layout) { l.Scope = s + "/pack" })
		add("within a scope"+name, func(l *api.Layout) { l.Scope = "ship/" + s })
		add("the last step"+name, func(l *api.Layout) { l.Steps[3].Name = s })
		add("the first owner"+name, func(l *api.Layout) { l.Steps[3].By[0] = s })
		add("the last owner"+name, func(l *api.Layout) { l.Steps[3].By[2] = s })
		add("the only owner"+name, func(l *api.Layout) { l.Steps[0].By[0] = s })
		add("the source of materials"+name, func(l *api.Layout) { l.Steps[2].Materials[1].From = s })
		add("the source of products"+name, func(l *api.Layout) { l.Steps[1].Products[0].From = s })
	}
	for _, n := range numbers() {
		if n < 1 || n > maxNumber {
			add(fmt.Sprintf("version %d", n), func(l *api.Layout) { l.Version = n })
		}
		if n < 0 || n > maxNumber {
			add(fmt.Sprintf("expires %d", n), func(l *api.Layout) { l.Expires = n })
		}
		for i, s := range sample().Steps {
			if n < 1 || n > int64(len(s.By)) {
				add(fmt.Sprintf("threshold %d of step %d", n, i), func(l *api.Layout) { l.Steps[i].Threshold = int(n) })
			}
		}
	}
	add("a scope of five names", func(l *api.Layout) { l.Scope = "a/b/c/d/e" })
	add("a scope without a run", func(l *api.Layout) { l.Run = "" })
	add("a run without a scope", func(l *api.Layout) { l.Scope = "" })
	add("no steps", func(l *api.Layout) { l.Steps = nil })
	add("an empty slice as steps", func(l *api.Layout) { l.Steps = []api.StepSpec{} })
	add("too many steps", func(l *api.Layout) {
		for _, name := range numbered("s", 13) {
			l.Steps = append(l.Steps, step(name, "o"))
		}
	})
	for i := range sample().Steps {
		out = append(out, invalidSteps(i)...)
	}
	return out
}

// invalidSteps returns the sample with a step that is not valid, each for one reason.
func invalidSteps(i int) []named {
	var out []named
	add := func(name string, change func(s *api.StepSpec)) {
		out = append(out, named{fmt.Sprintf("step %d with %s", i, name), changed(sample(), func(l *api.Layout) { change(&l.Steps[i]) })})
	}
	add("the name of another one", func(s *api.StepSpec) { s.Name = sample().Steps[(i+1)%4].Name })
	add("no owners", func(s *api.StepSpec) { s.By = nil })
	add("no owners and no threshold", func(s *api.StepSpec) { s.By, s.Threshold = nil, 0 })
	add("too many owners", func(s *api.StepSpec) { s.By = numbered("o", 17) })
	add("an owner twice", func(s *api.StepSpec) { s.By = append(s.By, s.By[len(s.By)-1]) })
	add("owners in another order", func(s *api.StepSpec) { s.By = []string{"b", "c", "a"} })
	add("a first owner who is last", func(s *api.StepSpec) { s.By = []string{"b", "a", "c"} })
	add("a delegated command", func(s *api.StepSpec) { s.Delegated, s.Command = true, []string{"make"} })
	add("a delegated empty word", func(s *api.StepSpec) { s.Delegated, s.Command = true, []string{""} })
	add("too many words", func(s *api.StepSpec) { s.Delegated, s.Command = false, make([]string, 17) })
	add("a word too long", func(s *api.StepSpec) { s.Delegated, s.Command = false, []string{"", strings.Repeat("x", 201), ""} })
	addRules := func(name string, l []api.Rule) {
		add("materials that are "+name, func(s *api.StepSpec) { s.Materials = l })
		add("products that are "+name, func(s *api.StepSpec) { s.Products = l })
	}
	addRules("too many", ruleList("r", 33))
	addRules("from the step itself", []api.Rule{match(sample().Steps[i].Name)})
	addRules("from a last step", []api.Rule{match("sign")})
	addRules("from no step", []api.Rule{match("test")})
	addRules("from one of no step", append(list("allow a"), match("app"), list("allow b")[0]))
	for name, r := range noRules() {
		addRules(name, []api.Rule{r})
		addRules(name+" at the end", append(list("allow a; disallow **"), r))
		addRules(name+" at the beginning", append([]api.Rule{r}, list("allow a; disallow **")...))
	}
	return out
}

// noNames returns texts that are no names.
func noNames() []string {
	return []string{"", "A", "aB", "-a", ".a", "_a", "a b", " a", "a ", "a/b/", "a//b", "~", "*", "a\n", "\x00", "\xff", "é", strings.Repeat("a", 65), strings.Repeat("a", 1000)}
}

// noRules returns rules that are not valid.
func noRules() map[string]api.Rule {
	return map[string]api.Rule{
		"the zero rule":               {},
		"of no kind":                  {Kind: 8, Pattern: "*"},
		"of a negative kind":          {Kind: -1, Pattern: "*"},
		"allow without a pattern":     {Kind: api.AllowRule},
		"allow an open pattern":       {Kind: api.AllowRule, Pattern: `a\`},
		"allow a long pattern":        {Kind: api.AllowRule, Pattern: strings.Repeat("*", 201)},
		"create from a step":          {Kind: api.CreateRule, Pattern: "*", From: "fetch"},
		"modify products":             {Kind: api.ModifyRule, Pattern: "*", Products: true},
		"delete in a directory":       {Kind: api.DeleteRule, Pattern: "*", In: "in"},
		"require to a directory":      {Kind: api.RequireRule, Pattern: "*", To: "to"},
		"match without a step":        {Kind: api.MatchRule, Pattern: "*"},
		"match without a pattern":     {Kind: api.MatchRule, From: "fetch"},
		"match in no directory":       {Kind: api.MatchRule, Pattern: "*", From: "fetch", In: "/"},
		"match to no directory":       {Kind: api.MatchRule, Pattern: "*", From: "fetch", To: "a/../b"},
		"disallow everything from us": {Kind: api.DisallowRule, Pattern: "**", From: "fetch", Products: true, In: "a", To: "b"},
	}
}

// Promise 14.1.
func TestValid(t *testing.T) {
	for _, x := range validLayouts() {
		expectValid(t, x.name, x.l, true)
	}
	for _, x := range invalidLayouts() {
		expectValid(t, x.name, x.l, false)
	}
}

// Promise 14.1: the examples of the chapter.
func TestExamples(t *testing.T) {
	expectChange(t, "without steps", false, func(l *api.Layout) { l.Steps = nil })
	expectChange(t, "a threshold greater than the number of owners", false, func(l *api.Layout) { l.Steps[1].Threshold = 4 })
	expectChange(t, "a threshold equal to the number of owners", true, func(l *api.Layout) { l.Steps[1].Threshold = 3 })
	two := api.Layout{Name: "two", Version: 1, Steps: []api.StepSpec{step("first", "o"), step("second", "o")}}
	expectValid(t, "two steps", two, true)
	two.Steps[0].Products = []api.Rule{match("second")}
	expectValid(t, "the first one matches from the second one", two, false)
	two.Steps[0].Products, two.Steps[1].Products = nil, []api.Rule{match("first")}
	expectValid(t, "the second one matches from the first one", two, true)
}

// Promise 14.1: all sorts of numbers at each place.
func TestValidNumbers(t *testing.T) {
	for _, n := range numbers() {
		expectChange(t, fmt.Sprintf("version %d", n), 1 <= n && n <= maxNumber, func(l *api.Layout) { l.Version = n })
		expectChange(t, fmt.Sprintf("expires %d", n), 0 <= n && n <= maxNumber, func(l *api.Layout) { l.Expires = n })
		expectChange(t, fmt.Sprintf("threshold %d", n), 1 <= n && n <= 3, func(l *api.Layout) { l.Steps[1].Threshold = int(n) })
	}
	for by := range 20 {
		for threshold := -2; threshold < 22; threshold++ {
			expectChange(t, fmt.Sprintf("%d of %d owners", threshold, by), by <= 16 && 1 <= threshold && threshold <= by, func(l *api.Layout) {
				l.Steps[1].By, l.Steps[1].Threshold = numbered("o", by), threshold
			})
		}
		for _, threshold := range []int{math.MinInt, math.MaxInt} {
			expectChange(t, fmt.Sprintf("%d of %d owners", threshold, by), false, func(l *api.Layout) {
				l.Steps[1].By, l.Steps[1].Threshold = numbered("o", by), threshold
			})
		}
	}
}

// Promise 14.1: each pair of a run and a scope.
func TestValidPlaces(t *testing.T) {
	good := 0
	for _, run := range oddTexts() {
		for _, scope := range oddTexts() {
			isName := !strings.Contains(run, "/") && nameForm.MatchString(run)
			want := isName && scopeForm.MatchString(scope) || run == "" && scope == ""
			if want {
				good++
			}
			expectChange(t, fmt.Sprintf("run %.70q, scope %.70q", run, scope), want, func(l *api.Layout) { l.Run, l.Scope = run, scope })
		}
	}
	if good != 6*10+1 {
		t.Errorf("%d are valid", good)
	}
}

// Promise 14.1: so many of everything.
func TestValidSizes(t *testing.T) {
	for n := range 40 {
		expectValid(t, fmt.Sprintf("%d steps", n), many(n, 1, 0, 0, 0), 1 <= n && n <= 16)
		expectValid(t, fmt.Sprintf("a chain of %d steps", n), chained(n), 1 <= n && n <= 16)
		expectValid(t, fmt.Sprintf("%d owners", n), many(2, n, 1, 1, 1), 1 <= n && n <= 16)
		expectValid(t, fmt.Sprintf("%d words", n), many(2, 1, n, 1, 1), n <= 16)
		expectValid(t, fmt.Sprintf("%d material rules", n), many(2, 1, 1, n, 1), n <= 32)
		expectValid(t, fmt.Sprintf("%d product rules", n), many(2, 1, 1, 1, n), n <= 32)
		expectValid(t, fmt.Sprintf("%d rules", n), many(2, 1, 1, n, n), n <= 32)
	}
	expectValid(t, "more rules than a document has lines", many(16, 16, 16, 32, 32), true)
	for _, n := range []int{1000, 1 << 17} {
		expectValid(t, fmt.Sprintf("%d steps", n), api.Layout{Name: "l", Version: 1, Steps: make([]api.StepSpec, n)}, false)
		expectValid(t, fmt.Sprintf("%d owners", n), many(1, n, 0, 0, 0), false)
		expectValid(t, fmt.Sprintf("%d words", n), many(1, 1, n, 0, 0), false)
		expectValid(t, fmt.Sprintf("%d rules", n), many(1, 1, 0, n, 0), false)
	}
	for _, n := range []int{0, 1, 63, 64, 65, 99, 100, 101, 199, 200, 201, 202, 400, 1 << 20} {
		for _, c := range []string{"x", "\xff", "\x00", "/"} {
			for i := range 4 {
				s := strings.Repeat(c, n)
				expectChange(t, fmt.Sprintf("a word of %d bytes", n), n <= 200, func(l *api.Layout) { l.Steps[1].Command[i] = s })
			}
		}
		// The limit is one of bytes.
		expectChange(t, fmt.Sprintf("a word of %d letters", n), n <= 100, func(l *api.Layout) { l.Steps[3].Command[0] = strings.Repeat("é", n) })
		s := strings.Repeat("x", n)
		expectChange(t, fmt.Sprintf("names of %d bytes", n), 1 <= n && n <= 64, func(l *api.Layout) {
			l.Name, l.Run, l.Scope, l.Steps[0].Name, l.Steps[0].By[0] = s, s, s, s, s
			l.Steps[1].Materials, l.Steps[1].Products, l.Steps[2].Materials = []api.Rule{match(s)}, nil, nil
		})
	}
}

// Promise 14.1: each byte as a name, within a name and at its end.
func TestValidBytes(t *testing.T) {
	for c := range 256 {
		s := string([]byte{byte(c)})
		alone := strings.ContainsAny(s, "abcdefghijklmnopqrstuvwxyz0123456789")
		inside := alone || strings.ContainsAny(s, "._-")
		for text, want := range map[string]bool{s: alone, "x" + s + "x": inside, "xx" + s: inside, s + "x": alone} {
			name := fmt.Sprintf("%q", text)
			expectChange(t, "the name "+name, want, func(l *api.Layout) { l.Name = text })
			expectChange(t, "the run "+name, want, func(l *api.Layout) { l.Run = text })
			// A scope may have a slash between two names.
			expectChange(t, "the scope "+name, want || text == "x/x", func(l *api.Layout) { l.Scope = text })
			expectChange(t, "the step "+name, want, func(l *api.Layout) { l.Steps[3].Name = text })
			expectChange(t, "the owner "+name, want, func(l *api.Layout) { l.Steps[0].By[0] = text })
			expectChange(t, "the word "+name, true, func(l *api.Layout) { l.Steps[3].Command[0] = text })
		}
	}
}

// Promise 14.1: the owners of a step in every order, and one of them twice.
func TestValidOwners(t *testing.T) {
	owners := []string{"0", "a", "a-b", "a.b", "a0", "b"}
	right := 0
	check := func(l []string) {
		want := slices.IsSorted(l) && len(slices.Compact(slices.Clone(l))) == len(l)
		if want {
			right++
		}
		expectChange(t, fmt.Sprintf("%q", l), want, func(x *api.Layout) { x.Steps[1].By = l })
	}
	permutations(owners, check)
	for i := range owners {
		for j := range owners {
			l := slices.Clone(owners)
			l[i] = l[j]
			check(l)
		}
	}
	if right != 1+6 {
		t.Errorf("%d are right", right)
	}
	// Each step has owners of its own.
	expectChange(t, "the same owners", true, func(l *api.Layout) {
		for i := range l.Steps {
			l.Steps[i].By, l.Steps[i].Threshold = owners, 6
		}
	})
}

// Promise 14.1: each pair of steps with the same name.
func TestValidStepNames(t *testing.T) {
	for n := 1; n <= 16; n++ {
		for i := range n {
			for j := range n {
				l := many(n, 1, 0, 0, 0)
				l.Steps[i].Name = l.Steps[j].Name
				expectValid(t, fmt.Sprintf("steps %d and %d of %d", i, j, n), l, i == j)
			}
		}
	}
	expectChange(t, "names that begin alike", true, func(l *api.Layout) {
		for i := range l.Steps {
			l.Steps[i] = step(strings.Repeat("a", i+1), "a")
		}
	})
}

// Promises 14.1 and 14.4: each step with files from each other one, on each side and among other rules.
func TestValidSources(t *testing.T) {
	for _, n := range []int{1, 2, 3, 16} {
		for to := range n {
			for from := range n {
				for place := range 3 {
					for _, products := range []bool{false, true} {
						l := many(n, 1, 0, 2, 2)
						side := &l.Steps[to].Materials
						if products {
							side = &l.Steps[to].Products
						}
						*side = slices.Insert(*side, place, match(l.Steps[from].Name))
						expectValid(t, fmt.Sprintf("step %d of %d from step %d", to, n, from), l, from < to)
					}
				}
			}
		}
	}
}

// Promise 14.1: the steps of a layout in every order, of which only one gives each of them its files before it needs them.
func TestValidOrder(t *testing.T) {
	l := chained(6)
	right := 0
	permutations(l.Steps, func(steps []api.StepSpec) {
		want := slices.IsSortedFunc(steps, func(a, b api.StepSpec) int { return strings.Compare(a.Name, b.Name) })
		if want {
			right++
		}
		expectValid(t, fmt.Sprint(steps), changed(l, func(l *api.Layout) { l.Steps = steps }), want)
	})
	if right != 1 {
		t.Error(right)
	}
}

// Promise 14.1: what is not valid in two ways.
func TestValidPairs(t *testing.T) {
	for i, run := range []string{"run-1", "", "/"} {
		for j, scope := range []string{"ship", "", "/"} {
			for k, name := range []string{"app", ""} {
				for m, version := range []int64{3, 0} {
					for n, expires := range []int64{70, -1} {
						for o, threshold := range []int{1, 0} {
							want := (i < 1 && j < 1 || i == 1 && j == 1) && k+m+n+o == 0
							expectChange(t, fmt.Sprint(run, scope, name, version, expires, threshold), want, func(l *api.Layout) {
								l.Run, l.Scope, l.Name, l.Version, l.Expires, l.Steps[0].Threshold = run, scope, name, version, expires, threshold
							})
						}
					}
				}
			}
		}
	}
}

// Rule R4: neither the arguments nor the memory after them are modified.
func TestArgumentsStay(t *testing.T) {
	for _, want := range []api.Layout{sample(), smallest(), many(16, 16, 16, 15, 15), many(17, 17, 17, 17, 17), chained(16)} {
		rule := api.Rule{Pattern: "mark"}
		l := copied(want)
		l.Steps = slices.Grow(l.Steps, 3)
		more := l.Steps[len(l.Steps) : len(l.Steps)+3]
		for i := range more {
			more[i] = step("mark")
		}
		for i := range l.Steps {
			s := &l.Steps[i]
			s.By, s.Command, s.Materials, s.Products = marked(s.By, "mark"), marked(s.Command, "mark"), marked(s.Materials, rule), marked(s.Products, rule)
		}
		text := marked([]byte(modelText(l)), 'm')
		wantText := slices.Clone(text)
		for range 2 {
			layout.Valid(l)
			layout.Encode(l)
			layout.Decode(text)
			layout.Scopes(l)
			layout.Step(l, "sign")
			layout.Feeds(l, "sign")
		}
		bad := !equal(l, want) || !slices.Equal(text, wantText) || unmarked(text, 'm')
		for _, s := range more {
			bad = bad || !equalSteps(s, step("mark"))
		}
		for _, s := range l.Steps {
			bad = bad || unmarked(s.By, "mark") || unmarked(s.Command, "mark") || unmarked(s.Materials, rule) || unmarked(s.Products, rule)
		}
		if bad {
			t.Errorf("an argument was modified: %.100q", wantText)
		}
	}
}

// The rule of the language that results are new memory: who writes to them does not change an argument or a later result.
func TestResultsAreNew(t *testing.T) {
	l := sample()
	clear(layout.Scopes(l))
	clear(layout.Feeds(l, "check"))
	b, _ := layout.Encode(l)
	clear(b)
	text := []byte(modelText(l))
	got, _ := layout.Decode(text)
	clear(text)
	expect(t, "after clearing the text", got, api.OK, l, api.OK)
	for i := range got.Steps {
		clear(got.Steps[i].By)
		clear(got.Steps[i].Command)
		clear(got.Steps[i].Materials)
		clear(got.Steps[i].Products)
	}
	clear(got.Steps)
	expect(t, "the argument", l, api.OK, sample(), api.OK)
	expectText(t, "again", l)
	expectSteps(t, "again", l)
}

// Rule R3: calls at the same time have the same results.
func TestCallsAreIndependent(t *testing.T) {
	var group sync.WaitGroup
	for n := range 8 {
		group.Go(func() {
			for range 10 {
				for _, l := range []api.Layout{sample(), chained(n + 1), many(n+1, n+1, n, n, n)} {
					expectText(t, "at the same time", l)
					expectValid(t, "at the same time", l, true)
					expectSteps(t, "at the same time", l)
				}
			}
		})
	}
	group.Wait()
}
