package rules_test

import (
	"fmt"
	"math"
	"slices"
	"strings"
	"sync"
	"testing"

	"admission/api"
	"admission/rules"
)

// expectValid checks Valid, and that it is what the model says.
func expectValid(t *testing.T, name string, r api.Rule, want bool) {
	t.Helper()
	if got := rules.Valid(r); got != want || modelValid(r) != want {
		t.Errorf("%.200s: %t, want %t and not %t", name, got, want, !want)
	}
}

// validRules returns rules of all kinds, which all differ.
func validRules() []named {
	var out []named
	add := func(r api.Rule) { out = append(out, named{fmt.Sprintf("%.200q", fmt.Sprint(r)), r}) }
	patterns := []string{"*", "**", "***", "?", "a", "a/b", "src/**", "*.c", `\*`, `\\`, `\a`, "/", ".", "..", "//", " ", "~", "%", "\n", "\xff", "é", "match", "allow", "products", strings.Repeat("*", 200)}
	for _, p := range patterns {
		for kind := 2; kind <= 7; kind++ {
			add(api.Rule{Kind: kind, Pattern: p})
		}
		for _, products := range []bool{false, true} {
			add(api.Rule{Kind: 1, Pattern: p, From: "build", Products: products})
			add(api.Rule{Kind: 1, Pattern: p, From: "build", Products: products, In: "in"})
			add(api.Rule{Kind: 1, Pattern: p, From: "build", Products: products, To: "in"})
			add(api.Rule{Kind: 1, Pattern: p, From: "build", Products: products, In: "in", To: "in"})
		}
	}
	long := strings.Repeat("x", 200)
	for _, r := range []string{
		"match * b products ~ ~", "match * b materials ~ ~", "match * build-2 products a/b ~", "match * build-2 products ~ a/b", "match * build-2 products a b", "match * build-2 products b a",
		"match * match products products products", "match * products materials materials materials", "match * materials products ... .a", "match * 0 products * **", "match * 0 products \\ ?", "match * 0 products \xff \n",
		"match " + long + " " + long[:64] + " materials " + long + " " + long,
	} {
		add(rule(r))
	}
	return out
}

// invalidRules returns rules that are not valid, each for one reason.
func invalidRules() []named {
	out := []named{{"the zero rule", api.Rule{}}}
	add := func(r api.Rule) { out = append(out, named{fmt.Sprintf("%.200q", fmt.Sprint(r)), r}) }
	for _, kind := range noKinds() {
		add(api.Rule{Kind: kind, Pattern: "*"})
		add(api.Rule{Kind: kind, Pattern: "*", From: "build", Products: true, In: "in", To: "to"})
	}
	match := rule("match * build products in to")
	for _, p := range noPatterns() {
		for kind := 2; kind <= 7; kind++ {
			add(api.Rule{Kind: kind, Pattern: p})
		}
		add(changed(match, func(r *api.Rule) { r.Pattern = p }))
	}
	for _, s := range []string{"", "A", "-a", ".a", "_a", "a b", "a/b", "~", "*", "a\n", "\x00", "é", strings.Repeat("a", 65)} {
		add(changed(match, func(r *api.Rule) { r.From = s }))
	}
	for _, s := range noDirectories() {
		add(changed(match, func(r *api.Rule) { r.In = s }))
		add(changed(match, func(r *api.Rule) { r.To = s }))
	}
	for kind := 2; kind <= 7; kind++ {
		add(api.Rule{Kind: kind, Pattern: "*", From: "build"})
		add(api.Rule{Kind: kind, Pattern: "*", Products: true})
		add(api.Rule{Kind: kind, Pattern: "*", In: "in"})
		add(api.Rule{Kind: kind, Pattern: "*", To: "to"})
		add(api.Rule{Kind: kind, Pattern: "*", From: "build", Products: true, In: "in", To: "to"})
	}
	return out
}

// noKinds returns numbers that are no kinds.
func noKinds() []int {
	return []int{math.MinInt, math.MinInt32, -256, -7, -2, -1, 0, 8, 9, 10, 63, 64, 255, 256, 257, 263, 1 << 16, 1<<16 + 1, math.MaxInt32, math.MaxInt - 6, math.MaxInt}
}

// noPatterns returns texts that are no patterns.
func noPatterns() []string {
	return []string{"", `\`, `a\`, `\\\`, `**\`, "\x00", "a\x00", "\x00a", "*\x00*", strings.Repeat("*", 201), strings.Repeat("a", 1<<16), strings.Repeat(`\`, 199)}
}

// noDirectories returns texts that are neither empty nor paths.
func noDirectories() []string {
	return []string{"/", "//", "a/", "/a", "a//b", ".", "..", "./a", "a/..", "../a", "a/.", "a/./b", "\x00", "a/\x00", strings.Repeat("a", 201), strings.Repeat("a/", 100), strings.Repeat("a/", 100) + "a"}
}

// Promise 13.1.
func TestValid(t *testing.T) {
	for _, x := range validRules() {
		expectValid(t, x.name, x.r, true)
	}
	for _, x := range invalidRules() {
		expectValid(t, x.name, x.r, false)
	}
}

// Promise 13.1: all numbers around those of the kinds.
func TestValidKinds(t *testing.T) {
	for kind := -300; kind < 300; kind++ {
		expectValid(t, fmt.Sprintf("kind %d", kind), api.Rule{Kind: kind, Pattern: "*"}, 2 <= kind && kind <= 7)
		expectValid(t, fmt.Sprintf("kind %d with a step", kind), api.Rule{Kind: kind, Pattern: "*", From: "a"}, kind == 1)
	}
}

// Promise 13.1: each field with and without a value, in every combination.
func TestValidFields(t *testing.T) {
	count := 0
	for kind := -1; kind <= 9; kind++ {
		for _, p := range []string{"", "*", "**", `\`} {
			for _, from := range []string{"", "a", "A"} {
				for _, products := range []bool{false, true} {
					for _, in := range []string{"", "a", "a/b", "/"} {
						for _, to := range []string{"", "a", "a/b", "/"} {
							r := api.Rule{Kind: kind, Pattern: p, From: from, Products: products, In: in, To: to}
							isPattern := p == "*" || p == "**"
							match := kind == 1 && from == "a" && in != "/" && to != "/"
							other := 2 <= kind && kind <= 7 && from == "" && !products && in == "" && to == ""
							expectValid(t, fmt.Sprint(r), r, isPattern && (match || other))
							count++
						}
					}
				}
			}
		}
	}
	if count != 11*4*3*2*4*4 {
		t.Error(count)
	}
}

// Promise 13.1: texts of every length around the limits, of all sorts of bytes, at each place of a rule.
func TestValidSizes(t *testing.T) {
	for _, n := range []int{0, 1, 2, 62, 63, 64, 65, 66, 100, 198, 199, 200, 201, 202, 256, 400, 1000, 1 << 20} {
		for _, c := range []string{"x", "0", "*", "?", "~", "\xff", "\n"} {
			expectText(t, strings.Repeat(c, n), 1 <= n && n <= 200, strings.Contains("x0", c) && 1 <= n && n <= 64, n <= 200)
		}
	}
	// The limits are ones of bytes.
	expectText(t, strings.Repeat("€", 66), true, false, true)
	expectText(t, strings.Repeat("€", 67), false, false, false)
}

// expectText checks a text at each place of a rule.
func expectText(t *testing.T, s string, isPattern, isName, isDirectory bool) {
	t.Helper()
	name := fmt.Sprintf("%d bytes %.20q", len(s), s)
	for kind := 2; kind <= 7; kind++ {
		expectValid(t, name+" as a pattern", api.Rule{Kind: kind, Pattern: s}, isPattern)
	}
	expectValid(t, name+" as a pattern to match", api.Rule{Kind: 1, Pattern: s, From: "a"}, isPattern)
	expectValid(t, name+" as a step", api.Rule{Kind: 1, Pattern: "*", From: s}, isName)
	expectValid(t, name+" as a directory", api.Rule{Kind: 1, Pattern: "*", From: "a", In: s}, isDirectory)
	expectValid(t, name+" as another directory", api.Rule{Kind: 1, Pattern: "*", From: "a", To: s}, isDirectory)
}

// Promise 13.1: any byte alone, and at the beginning, in the middle and at the end of a text.
func TestValidBytes(t *testing.T) {
	const letters = "abcdefghijklmnopqrstuvwxyz0123456789"
	for i := range 256 {
		c := string([]byte{byte(i)})
		alone := strings.Contains(letters, c)
		inside := alone || strings.Contains("._-", c)
		zero, slash := c == "\x00", c == "/"
		expectText(t, c, !zero && c != `\`, alone, !zero && !slash && c != ".")
		expectText(t, c+"a", !zero, alone, !zero && !slash)
		expectText(t, "a"+c+"a", !zero, inside, !zero)
		expectText(t, "a"+c, !zero && c != `\`, inside, !zero && !slash)
	}
}

// expectWords checks Words, and that Read returns the rule with them; no words are wanted for a rule that is not valid.
func expectWords(t *testing.T, r api.Rule, want ...string) {
	t.Helper()
	if got := rules.Words(r); !slices.Equal(got, want) || !slices.Equal(modelWords(r), want) {
		t.Errorf("%.200q: %.200q, want %.200q", fmt.Sprint(r), got, want)
	}
	if len(want) > 0 {
		expectRead(t, want, r, true)
	}
}

// expectRead checks Read, and that it is what the model says.
func expectRead(t *testing.T, words []string, want api.Rule, wantOK bool) {
	t.Helper()
	got, ok := rules.Read(words)
	if got != want || ok != wantOK {
		t.Errorf("%.200q: %v %t, want %v %t", words, got, ok, want, wantOK)
	}
	if r, ok := modelRead(words); r != want || ok != wantOK {
		t.Errorf("%.200q: the model says %v %t, not %v %t", words, r, ok, want, wantOK)
	}
}

// Promise 13.2: the words of each kind.
func TestWords(t *testing.T) {
	for kind, word := range map[int]string{
		api.CreateRule: "create", api.ModifyRule: "modify", api.DeleteRule: "delete", api.AllowRule: "allow", api.DisallowRule: "disallow", api.RequireRule: "require",
	} {
		expectWords(t, api.Rule{Kind: kind, Pattern: "src/*.c"}, word, "src/*.c")
	}
	r := api.Rule{Kind: api.MatchRule, Pattern: "*.c", From: "fetch", Products: true, In: "src", To: "pkg/src"}
	expectWords(t, r, "match", "*.c", "fetch", "products", "src", "pkg/src")
	r.Products = false
	expectWords(t, r, "match", "*.c", "fetch", "materials", "src", "pkg/src")
	r.In = ""
	expectWords(t, r, "match", "*.c", "fetch", "materials", "", "pkg/src")
	r.To = ""
	expectWords(t, r, "match", "*.c", "fetch", "materials", "", "")
	r.In = "src"
	expectWords(t, r, "match", "*.c", "fetch", "materials", "src", "")
}

// Promise 13.2: words are not changed, whatever is in them.
func TestWordsOfAllRules(t *testing.T) {
	seen := map[string]api.Rule{}
	for _, x := range validRules() {
		words := modelWords(x.r)
		expectWords(t, x.r, words...)
		key := strings.Join(words, "\x00")
		if other, found := seen[key]; found {
			t.Errorf("%q is %v and %v", words, other, x.r)
		}
		seen[key] = x.r
	}
	if len(seen) < 300 {
		t.Errorf("only %d", len(seen))
	}
}

// Promise 13.2: no words of a rule that is not valid.
func TestNoWords(t *testing.T) {
	for _, x := range invalidRules() {
		expectWords(t, x.r)
	}
}

// Promise 13.2: words of no rule.
func TestReadOthers(t *testing.T) {
	for _, words := range [][]string{
		nil, {}, {""}, {"", ""}, {"allow"}, {"allow", ""}, {"", "*"}, {"Allow", "*"}, {"allow ", "*"}, {" allow", "*"}, {"allows", "*"}, {"allo", "*"}, {"allow *"}, {"*", "allow"}, {"*"},
		{"match"}, {"match", "*"}, {"match", "*", "a"}, {"match", "*", "a", "products"}, {"match", "*", "a", "products", ""}, {"match", "*", "a", "products", "", "", ""}, {"match", "*", "a", "", ""},
		{"match", "*", "a", "Products", "", ""}, {"match", "*", "a", "product", "", ""}, {"match", "*", "a", "true", "", ""}, {"match", "*", "a", "", "", ""}, {"match", "*", "a", "material", "", ""}, {"match", "*", "a", "products ", "", ""},
		{"allow", "*", "a", "products", "", ""}, {"allow", "*", "", "materials", "", ""}, {"allow", "*", "", "products", "", ""}, {"allow", "*", ""}, {"allow", "*", "*"}, {"allow", "*", "", "", "", ""}, {"", "*", "a", "products", "", ""},
		{"5", "*"}, {"allow", "*", "allow", "*"}, {"match", "*", "products", "a", "", ""}, {"match", "a", "*", "products", "", ""}, {"products", "*"}, {"materials", "*"}, {"\x00", "*"},
		make([]string, 6), make([]string, 2), make([]string, 1000), slices.Repeat([]string{"allow", "*"}, 500),
	} {
		expectRead(t, words, api.Rule{}, false)
	}
}

// Promise 13.2: every short list of words, most of which belong somewhere in a rule.
func TestReadEveryList(t *testing.T) {
	read := 0
	every([]string{"match", "disallow", "products", "materials", "", "*", "a"}, 6, func(words []string) {
		want, ok := modelRead(words)
		expectRead(t, words, want, ok)
		if ok {
			read++
			expectWords(t, want, words...)
		}
	})
	// Of 7 words all but the empty one are patterns and directories, and 5 of these are names.
	if want := 6 + 6*5*2*7*7; read != want {
		t.Errorf("%d rules, want %d", read, want)
	}
}

// Promise 13.2: at each place of a rule each of the words that are something elsewhere, or nothing anywhere.
func TestReadWords(t *testing.T) {
	words := append(noPatterns(), noDirectories()...)
	words = append(words, kindWords...)
	words = append(words, "a", "*", "**", "a/b", "A", "products", "materials", "product", "Match", "MATCH", "create ", "creat", "creates", "~", "%20", "\n", "\xff", "0", "1", "true", strings.Repeat("n", 64), strings.Repeat("n", 65), strings.Repeat("n", 200))
	for _, x := range []string{"match * build products in to", "match a/** b materials ~ ~", "create *", "require a"} {
		good := modelWords(rule(x))
		for i := range good {
			for _, w := range words {
				l := slices.Clone(good)
				l[i] = w
				want, ok := modelRead(l)
				expectRead(t, l, want, ok)
				more := slices.Insert(slices.Clone(good), i, w)
				expectRead(t, more, api.Rule{}, false)
			}
			expectRead(t, slices.Delete(slices.Clone(good), i, i+1), api.Rule{}, false)
			for j := range good {
				l := slices.Clone(good)
				l[i], l[j] = l[j], l[i]
				want, ok := modelRead(l)
				expectRead(t, l, want, ok)
			}
		}
		expectRead(t, append(slices.Clone(good), ""), api.Rule{}, false)
	}
}

// Promise 13.2: whatever byte of a word is changed, inserted or taken away, Read returns the rule with these words if there is one.
func TestReadEdits(t *testing.T) {
	for _, x := range []string{"match s/*.c a-1 products x/y z", "match ? b materials z z", "create a", "modify *", "delete b", "allow c", "disallow **", "require d"} {
		good := modelWords(rule(x))
		for i, w := range good {
			for at := range len(w) + 1 {
				for c := range 256 {
					put := string([]byte{byte(c)})
					expectEdited(t, good, i, w[:at]+put+w[at:])
					if at < len(w) {
						expectEdited(t, good, i, w[:at]+put+w[at+1:])
						expectEdited(t, good, i, w[:at]+w[at+1:])
					}
				}
			}
		}
	}
}

// expectEdited checks what is read with w for word i of good.
func expectEdited(t *testing.T, good []string, i int, w string) {
	t.Helper()
	words := slices.Clone(good)
	words[i] = w
	want, ok := modelRead(words)
	expectRead(t, words, want, ok)
	if ok {
		expectWords(t, want, words...)
	}
}

// expectStrict checks Strict.
func expectStrict(t *testing.T, name string, l []api.Rule, want bool) {
	t.Helper()
	if got := rules.Strict(l); got != want {
		t.Errorf("%.200s: %t, want %t", name, got, want)
	}
}

// Promise 13.5.
func TestStrict(t *testing.T) {
	for _, x := range []string{
		"disallow **", "disallow **; disallow **", "allow *; disallow **", "require a; match ** b products ~ ~; create *; modify *; delete *; disallow b; disallow **", "disallow *; disallow **", "allow **; disallow **",
	} {
		expectStrict(t, x, list(x), true)
	}
	for _, x := range []string{
		"", "allow **", "require **", "create **", "modify **", "delete **", "match ** a products ~ ~", "disallow *", "disallow ***", "disallow ****", "disallow */**", "disallow **/**", `disallow \**`, `disallow *\*`, `disallow \*\*`,
		"disallow ?**", "disallow **?", "disallow a", "disallow **; allow **", "disallow **; allow a", "disallow **; require a", "disallow **; disallow *", "disallow *; disallow *", "disallow **; disallow **; delete a",
	} {
		expectStrict(t, x, list(x), false)
	}
	expectStrict(t, "no rules", []api.Rule{}, false)
}

// Promise 13.5: a rule that is not valid, at each place.
func TestStrictInvalid(t *testing.T) {
	good := list("require a; match ** b products ~ ~; allow *; disallow **")
	for _, x := range invalidRules() {
		for i := range good {
			l := slices.Clone(good)
			l[i] = x.r
			expectStrict(t, fmt.Sprintf("%s for rule %d", x.name, i), l, false)
			expectStrict(t, fmt.Sprintf("%s before rule %d", x.name, i), slices.Insert(slices.Clone(good), i, x.r), false)
		}
		expectStrict(t, x.name+" at the end", append(slices.Clone(good), x.r), false)
		expectStrict(t, x.name+" alone", []api.Rule{x.r}, false)
	}
	last := rule("disallow **")
	for _, x := range []struct {
		name   string
		change func(r *api.Rule)
	}{
		{"with From", func(r *api.Rule) { r.From = "a" }},
		{"with Products", func(r *api.Rule) { r.Products = true }},
		{"with In", func(r *api.Rule) { r.In = "a" }},
		{"with To", func(r *api.Rule) { r.To = "a" }},
	} {
		expectStrict(t, x.name, append(slices.Clone(good), changed(last, x.change)), false)
	}
}

// Promise 13.5: any number of rules; the limit of a layout is none of a list of rules.
func TestStrictLengths(t *testing.T) {
	for _, n := range []int{1, 2, 31, 32, 33, 100, 5000} {
		l := slices.Repeat(list("allow a"), n)
		expectStrict(t, fmt.Sprintf("%d rules", n), l, false)
		l[n-1] = rule("disallow **")
		expectStrict(t, fmt.Sprintf("%d rules with a last one", n), l, true)
		expectStrict(t, fmt.Sprintf("%d rules and one more", n), append(l, rule("allow a")), false)
		for i := 0; i < n; i += n/7 + 1 {
			bad := slices.Clone(l)
			bad[i].Pattern = ""
			expectStrict(t, fmt.Sprintf("%d rules of which rule %d is not valid", n, i), bad, false)
		}
	}
}

// Promises 13.1, 13.2 and 13.5: every rule of a few words for each field.
func TestEveryRule(t *testing.T) {
	for kind := range 9 {
		for _, p := range []string{"", "**", "a", `\`} {
			for _, words := range [][3]string{{}, {"a", "", ""}, {"", "a", ""}, {"", "", "a"}, {"a", "a", "a"}, {"a", "/", ""}, {"a", "", "/"}, {"/", "", ""}} {
				for _, products := range []bool{false, true} {
					r := api.Rule{Kind: kind, Pattern: p, From: words[0], Products: products, In: words[1], To: words[2]}
					expectValid(t, fmt.Sprint(r), r, modelValid(r))
					expectWords(t, r, modelWords(r)...)
					expectStrict(t, fmt.Sprint(r), []api.Rule{r}, r == api.Rule{Kind: 6, Pattern: "**"})
				}
			}
		}
	}
}

// Rule R4: neither the arguments nor the memory after them are modified, and the results are new memory.
func TestWordsStay(t *testing.T) {
	for _, x := range validRules() {
		want := modelWords(x.r)
		words := marked(want, "mark")
		r, ok := rules.Read(words)
		got := rules.Words(x.r)
		if !slices.Equal(words, want) || unmarked(words, "mark") {
			t.Errorf("%q became %q", want, words)
		}
		clear(words)
		clear(got[:cap(got)])
		if r != x.r || !ok || !slices.Equal(rules.Words(x.r), want) {
			t.Errorf("%q is not what it was: %v", want, r)
		}
	}
	l, want := marked(list("allow *; disallow **"), rule("allow b")), list("allow *; disallow **")
	if rules.Strict(l); !slices.Equal(l, want) || unmarked(l, rule("allow b")) {
		t.Errorf("%v", l)
	}
}

// Rule R3: calls at the same time have the same results.
func TestCallsAreIndependent(t *testing.T) {
	var group sync.WaitGroup
	self := link("s", "a=1 b=2 c=3 d=4", "a=1 b=3 c=3 e=5")
	done := []api.Link{link("t", "x/a=1", "b=2 y/c=3")}
	l := list("match * t products ~ y; modify *; require d; delete *; disallow *")
	for n := range 8 {
		group.Go(func() {
			for range 50 {
				got := rules.Apply(l[:n%6], false, self, done)
				want := [][]string{{"a", "b", "c", "d"}, {"a", "b", "d"}, {"a", "d"}, {"a", "d"}, {"a"}, {"a"}}[n%6]
				if !slices.Equal(got.Left, want) || (got.Failed >= 0) != (n%6 == 5) {
					t.Errorf("%d rules: %v", n%6, got)
				}
				if words := rules.Words(l[0]); !slices.Equal(words, []string{"match", "*", "t", "products", "", "y"}) {
					t.Errorf("%q", words)
				}
				if r, ok := rules.Read([]string{"delete", "*"}); r != l[3] || !ok || !rules.Strict(list("allow a; disallow **")) {
					t.Error(r, ok)
				}
			}
		})
	}
	group.Wait()
}
