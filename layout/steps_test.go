package layout_test

import (
	"fmt"
	"math/rand"
	"slices"
	"strings"
	"testing"

	"admission/api"
	"admission/layout"
)

// expectStep checks Step, and that it is what the model says.
func expectStep(t *testing.T, name string, l api.Layout, step string, want int) {
	t.Helper()
	if got := layout.Step(l, step); got != want || modelIndex(l, step) != want {
		t.Errorf("%.100s: step %.100q is %d, want %d", name, step, got, want)
	}
}

// expectScopes checks Scopes, and that it is what the model says.
func expectScopes(t *testing.T, name string, l api.Layout, want ...string) {
	t.Helper()
	if got := layout.Scopes(l); !slices.Equal(got, want) || !slices.Equal(modelScopes(l), want) {
		t.Errorf("%.100s: scopes %.200q, want %.200q", name, got, want)
	}
}

// expectFeeds checks Feeds, and that it is what the model says.
func expectFeeds(t *testing.T, name string, l api.Layout, step string, want ...string) {
	t.Helper()
	if got := layout.Feeds(l, step); !slices.Equal(got, want) || !slices.Equal(modelFeeds(l, step), want) {
		t.Errorf("%.100s: %.100q has files from %.200q, want %.200q", name, step, got, want)
	}
}

// expectSteps checks all that is said of the steps of l, and of others.
func expectSteps(t *testing.T, name string, l api.Layout) {
	t.Helper()
	expectScopes(t, name, l, modelScopes(l)...)
	names := []string{"", "x", "fetch", "Fetch", l.Name, l.Run, l.Scope}
	for _, s := range l.Steps {
		names = append(names, s.Name, s.Name+" ", strings.ToUpper(s.Name))
		for _, r := range slices.Concat(s.Materials, s.Products) {
			names = append(names, r.From)
		}
	}
	for _, s := range names {
		expectStep(t, name, l, s, modelIndex(l, s))
		expectFeeds(t, name, l, s, modelFeeds(l, s)...)
	}
}

// Promise 14.3: layouts of all sorts, valid or not.
func TestSteps(t *testing.T) {
	for _, x := range append(validLayouts(), invalidLayouts()...) {
		expectSteps(t, x.name, x.l)
	}
	for _, s := range oddTexts() {
		for _, scope := range oddTexts() {
			l := changed(sample(), func(l *api.Layout) { l.Scope, l.Steps[2].Name, l.Steps[3].Products[0].From = scope, s, s })
			expectSteps(t, fmt.Sprintf("%.70q in %.70q", s, scope), l)
		}
	}
}

// Promise 14.3: the index of each step.
func TestStep(t *testing.T) {
	for i, name := range []string{"fetch", "build", "check", "sign"} {
		expectStep(t, "the sample", sample(), name, i)
	}
	for _, name := range []string{"", "app", "run-1", "ship", "pack", "anna", "Fetch", "fetch ", "fetc", "fetch2", "test", "\x00", strings.Repeat("fetch", 1000)} {
		expectStep(t, "the sample", sample(), name, -1)
	}
	for n := range 40 {
		l := many(n, 1, 0, 0, 0)
		for i, s := range l.Steps {
			expectStep(t, fmt.Sprintf("%d steps", n), l, s.Name, i)
		}
		expectStep(t, fmt.Sprintf("%d steps", n), l, fmt.Sprintf("step%03d", n), -1)
		expectStep(t, fmt.Sprintf("%d steps", n), l, "", -1)
	}
	expectStep(t, "the zero layout", api.Layout{}, "", -1)
	expectStep(t, "a step without a name", api.Layout{Steps: []api.StepSpec{step("a"), {}, {}}}, "", 1)
}

// Promise 14.3: the first of several steps with a name.
func TestFirstStep(t *testing.T) {
	l := api.Layout{Steps: []api.StepSpec{step("a"), step("b"), step("a"), step("b"), step("c"), step("a")}}
	l.Steps[0].Materials = []api.Rule{match("c")}
	l.Steps[1].Products = []api.Rule{match("b"), match("a")}
	l.Steps[2].Materials = []api.Rule{match("a")}
	l.Steps[3].Materials = []api.Rule{match("c")}
	l.Steps[4].Materials = []api.Rule{match("a"), match("b"), match("c")}
	for name, i := range map[string]int{"a": 0, "b": 1, "c": 4} {
		expectStep(t, "names twice", l, name, i)
	}
	expectFeeds(t, "names twice", l, "a", "c")
	expectFeeds(t, "names twice", l, "b", "a", "b")
	expectFeeds(t, "names twice", l, "c", "a", "b", "c")
}

// Promise 14.3: the scopes of the delegated steps, in their order.
func TestScopes(t *testing.T) {
	expectScopes(t, "the sample", sample(), "ship/pack/check")
	expectScopes(t, "the smallest one", smallest())
	expectScopes(t, "the zero layout", api.Layout{})
	for mask := range 1 << 6 {
		for _, scope := range []string{"", "a", "a/b/c/d", "/", " "} {
			l := api.Layout{Run: "run", Scope: scope}
			var want []string
			for i, name := range []string{"f", "e", "a", "d", "c", "b"} {
				delegated := mask>>i&1 == 1
				l.Steps = append(l.Steps, api.StepSpec{Name: name, Delegated: delegated})
				switch {
				case delegated && scope == "":
					want = append(want, name)
				case delegated:
					want = append(want, scope+"/"+name)
				}
			}
			expectScopes(t, fmt.Sprintf("%06b in %q", mask, scope), l, want...)
		}
	}
	// Each delegated step has one, also where names are not different.
	l := api.Layout{Steps: []api.StepSpec{{Name: "a", Delegated: true}, step("a"), {Name: "a", Delegated: true}, {Delegated: true}}}
	expectScopes(t, "a name twice", l, "a", "a", "")
}

// Promise 14.3: the steps that a step has files from, in the order of the layout, each once.
func TestFeeds(t *testing.T) {
	expectFeeds(t, "the sample", sample(), "fetch")
	expectFeeds(t, "the sample", sample(), "build", "fetch")
	expectFeeds(t, "the sample", sample(), "check", "fetch", "build")
	expectFeeds(t, "the sample", sample(), "sign", "check")
	for _, name := range []string{"", "test", "app", "Sign"} {
		expectFeeds(t, "the sample", sample(), name)
	}
	names := []string{"d", "b", "a", "c"}
	permutations(names, func(from []string) {
		for n := range len(from) + 1 {
			l := api.Layout{Steps: []api.StepSpec{step("d"), step("b"), step("a"), step("c"), step("last")}}
			var want []string
			for _, name := range names {
				if slices.Contains(from[:n], name) {
					want = append(want, name)
				}
			}
			s := &l.Steps[4]
			for i, name := range from[:n] {
				switch i % 3 {
				case 0:
					s.Materials = append(s.Materials, match(name))
				case 1:
					s.Products = append(s.Products, match(name))
				case 2:
					s.Materials, s.Products = append(s.Materials, match(name), match(name)), append(s.Products, match(name))
				}
			}
			expectFeeds(t, fmt.Sprint(from[:n]), l, "last", want...)
		}
	})
}

// Promise 14.3: only what a MatchRule has files from counts, whatever else the rule says.
func TestFeedsOfRules(t *testing.T) {
	for kind := -2; kind <= 9; kind++ {
		for _, r := range []api.Rule{{From: "a"}, {From: "a", Pattern: "*"}, {From: "a", Pattern: "*", Products: true, In: "b", To: "c"}, {From: "a", Pattern: `\`, In: "/", To: "//"}} {
			for _, products := range []bool{false, true} {
				r.Kind = kind
				l := api.Layout{Steps: []api.StepSpec{step("a"), step("b"), step("c"), step("d")}}
				if products {
					l.Steps[1].Products = []api.Rule{r}
				} else {
					l.Steps[1].Materials = []api.Rule{r}
				}
				name := fmt.Sprint(r)
				if kind == 1 {
					expectFeeds(t, name, l, "b", "a")
				} else {
					expectFeeds(t, name, l, "b")
				}
				for _, other := range []string{"a", "c", "d", "e", ""} {
					expectFeeds(t, name, l, other)
				}
			}
		}
	}
}

// Promise 14.3: steps that are no earlier ones, or not in the layout, as sources.
func TestFeedsOfOtherSteps(t *testing.T) {
	l := changed(sample(), func(l *api.Layout) {
		l.Steps[1].Materials = []api.Rule{match("sign"), match("none"), match("build"), match(""), match("fetch"), match("app")}
	})
	expectFeeds(t, "later steps", l, "build", "fetch", "build", "sign")
	long := api.Layout{}
	var want []string
	for i, name := range numbered("step", 3000) {
		long.Steps = append(long.Steps, step(name))
		if i%3 == 1 {
			want = append(want, name)
			long.Steps[0].Products = append(long.Steps[0].Products, match(name), match("x"+name), match(name))
		}
	}
	slices.Reverse(long.Steps[0].Products)
	if got := layout.Feeds(long, "step000"); !slices.Equal(got, want) {
		t.Errorf("%d steps, want %d", len(got), len(want))
	}
}

// Promise 14.4: whatever the rules of a layout say, if it is valid a step has files from earlier ones only, and so none of itself over others.
func TestFilesFlowForward(t *testing.T) {
	random := rand.New(rand.NewSource(14))
	valid, flows := 0, 0
	for range 20000 {
		l := randomLayout(random)
		expectValid(t, fmt.Sprint(l), l, modelValid(l))
		expectSteps(t, fmt.Sprint(l), l)
		if !layout.Valid(l) {
			continue
		}
		valid++
		for i, s := range l.Steps {
			if layout.Step(l, s.Name) != i {
				t.Fatalf("%v: step %d is another one", l, i)
			}
			for _, from := range layout.Feeds(l, s.Name) {
				flows++
				if layout.Step(l, from) >= i {
					t.Fatalf("%v: %s has files from %s", l, s.Name, from)
				}
			}
			// Nothing that a rule names is left out.
			for _, r := range slices.Concat(s.Materials, s.Products) {
				if r.Kind == api.MatchRule && !slices.Contains(layout.Feeds(l, s.Name), r.From) {
					t.Fatalf("%v: %s has no files from %s", l, s.Name, r.From)
				}
			}
		}
	}
	if valid < 2000 || flows < 2000 {
		t.Errorf("only %d valid ones, %d flows", valid, flows)
	}
}

// randomLayout returns a layout of few steps and names, of which many are valid.
func randomLayout(random *rand.Rand) api.Layout {
	pick := func(l ...string) string { return l[random.Intn(len(l))] }
	l := api.Layout{Name: "l", Version: 1 + random.Int63n(3), Run: pick("", "r", "r"), Scope: pick("a", "a/b")}
	if l.Run == "" {
		l.Scope = ""
	}
	for range random.Intn(5) {
		s := step(pick("a", "b", "c", "d", "e", "f", "g"), "o")
		s.Delegated = random.Intn(3) == 0
		if random.Intn(4) == 0 {
			s.Command = []string{pick("", "x")}
		}
		for _, side := range []*[]api.Rule{&s.Materials, &s.Products} {
			for range random.Intn(3) {
				r := api.Rule{Kind: 2 + random.Intn(6), Pattern: pick("*", "**", "a")}
				if random.Intn(2) == 0 && len(l.Steps) > 0 {
					r = match(l.Steps[random.Intn(len(l.Steps))].Name)
				} else if random.Intn(8) == 0 {
					r = match(pick("a", "b", "c", "x"))
				}
				*side = append(*side, r)
			}
		}
		l.Steps = append(l.Steps, s)
	}
	return l
}
