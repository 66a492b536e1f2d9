package rules_test

import (
	"fmt"
	"math/rand/v2"
	"slices"
	"strings"
	"testing"

	"admission/api"
	"admission/rules"
	"admission/snapshot"
)

// expectApply checks Apply, and that it is what the model says.
func expectApply(t *testing.T, name string, l []api.Rule, products bool, self api.Link, done []api.Link, want api.RuleResult) {
	t.Helper()
	expectResult(t, name, rules.Apply(l, products, self, done), want)
	expectResult(t, name+" in the model", modelApply(l, products, self, done), want)
}

// expectModel checks that Apply is what the model says, and returns it.
func expectModel(t *testing.T, name string, l []api.Rule, products bool, self api.Link, done []api.Link) api.RuleResult {
	t.Helper()
	got := rules.Apply(l, products, self, done)
	expectResult(t, name, got, modelApply(l, products, self, done))
	return got
}

// left is the result of rules that do not fail.
func left(paths string) api.RuleResult {
	return api.RuleResult{Left: strings.Fields(paths), Failed: -1}
}

// failed is the result of rules of which one fails.
func failed(index int, path, paths string) api.RuleResult {
	return api.RuleResult{Left: strings.Fields(paths), Failed: index, Path: path}
}

// step is a step with files of all sorts: b.c is modified, c.h deleted and out/a created.
func step() api.Link {
	return link("build", "a.c=1 b.c=2 c.h=3 src/d.c=4", "a.c=1 b.c=5 out/a=6 src/d.c=4")
}

// earlier returns links of other steps, two of which have the same name.
func earlier() []api.Link {
	return []api.Link{
		link("fetch", "src/d.c=4 x=1", "a.c=1 b.c=5 c.h=7 pkg/c.h=3 pkg/out/a=6"),
		link("fetch", "c.h=3", "c.h=3 src/d.c=4"),
		link("lint", "b.c=2 d.c=4", "a=6 in/deep/d.c=4"),
	}
}

// Promise 13.3: the examples of the chapter.
func TestExamples(t *testing.T) {
	self := link("s", "a.c=1 b.h=2", "")
	expectApply(t, "allow", list("allow *.c"), false, self, nil, left("b.h"))
	expectApply(t, "disallow", list("allow *.c; disallow **"), false, self, nil, failed(1, "b.h", "b.h"))
	expectApply(t, "require", list("require b.h"), false, self, nil, left("a.c b.h"))
	expectApply(t, "require after removing", list("allow b.h; require b.h"), false, self, nil, failed(1, "", "a.c"))
	match := list("match * build products ~ out")
	self = link("s", "x=1", "")
	expectApply(t, "match", match, false, self, []api.Link{link("build", "", "out/x=1")}, left(""))
	expectApply(t, "another digest", match, false, self, []api.Link{link("build", "", "out/x=2")}, left("x"))
}

// Promise 13.3: rules of each kind, at both sides.
func TestApply(t *testing.T) {
	for _, x := range []struct{ rules, materials, products string }{
		{"", "a.c b.c c.h src/d.c", "a.c b.c out/a src/d.c"},
		{"allow *.c", "c.h src/d.c", "out/a src/d.c"}, {"allow **.c", "c.h", "out/a"}, {"allow **", "", ""}, {"allow *", "src/d.c", "out/a src/d.c"}, {"allow z", "a.c b.c c.h src/d.c", "a.c b.c out/a src/d.c"}, {"allow a.c; allow src/?.c", "b.c c.h", "b.c out/a"},
		{"create **", "a.c b.c c.h src/d.c", "a.c b.c src/d.c"}, {"create *", "a.c b.c c.h src/d.c", "a.c b.c out/a src/d.c"}, {"create out/*", "a.c b.c c.h src/d.c", "a.c b.c src/d.c"},
		{"modify **", "a.c c.h src/d.c", "a.c out/a src/d.c"}, {"modify a*", "a.c b.c c.h src/d.c", "a.c b.c out/a src/d.c"}, {"modify b*", "a.c c.h src/d.c", "a.c out/a src/d.c"},
		{"delete **", "a.c b.c src/d.c", "a.c b.c out/a src/d.c"}, {"delete *.h", "a.c b.c src/d.c", "a.c b.c out/a src/d.c"}, {"delete *.c", "a.c b.c c.h src/d.c", "a.c b.c out/a src/d.c"},
		{"create **; modify **; delete **", "a.c src/d.c", "a.c src/d.c"}, {"delete **; modify **; create **; allow *", "src/d.c", "src/d.c"},
		{"match ** fetch products ~ ~", "b.c c.h src/d.c", "out/a src/d.c"}, {"match ** fetch materials ~ ~", "a.c b.c c.h", "a.c b.c out/a"}, {"match ** lint materials ~ ~", "a.c c.h src/d.c", "a.c b.c out/a src/d.c"}, {"match ** lint products ~ ~", "a.c b.c c.h src/d.c", "a.c b.c out/a src/d.c"},
		{"match ** fetch products ~ pkg", "a.c b.c src/d.c", "a.c b.c src/d.c"}, {"match * fetch products ~ pkg", "a.c b.c src/d.c", "a.c b.c out/a src/d.c"}, {"match a fetch products out pkg/out", "a.c b.c c.h src/d.c", "a.c b.c src/d.c"}, {"match out/a fetch products out pkg/out", "a.c b.c c.h src/d.c", "a.c b.c out/a src/d.c"},
		{"match * lint materials src ~", "a.c b.c c.h", "a.c b.c out/a"}, {"match * lint products src in/deep", "a.c b.c c.h", "a.c b.c out/a"}, {"match * lint products src in", "a.c b.c c.h src/d.c", "a.c b.c out/a src/d.c"}, {"match * lint products out ~", "a.c b.c c.h src/d.c", "a.c b.c src/d.c"}, {"match d.* fetch materials src src", "a.c b.c c.h", "a.c b.c out/a"},
		{"match ** nobody products ~ ~", "a.c b.c c.h src/d.c", "a.c b.c out/a src/d.c"}, {"match ** build products ~ ~", "a.c b.c c.h src/d.c", "a.c b.c out/a src/d.c"}, {"match ** build materials ~ ~", "a.c b.c c.h src/d.c", "a.c b.c out/a src/d.c"},
		{"disallow z", "a.c b.c c.h src/d.c", "a.c b.c out/a src/d.c"}, {"require src/**", "a.c b.c c.h src/d.c", "a.c b.c out/a src/d.c"}, {"allow **; disallow **", "", ""}, {"require *; allow *; disallow *; require */*", "src/d.c", "out/a src/d.c"},
	} {
		expectApply(t, x.rules+" with materials", list(x.rules), false, step(), earlier(), left(x.materials))
		expectApply(t, x.rules+" with products", list(x.rules), true, step(), earlier(), left(x.products))
	}
}

// Promise 13.4: rules that fail: which one, because of which path, and what is left at that time.
func TestFailures(t *testing.T) {
	for _, x := range []struct {
		rules    string
		products bool
		want     api.RuleResult
	}{
		{"disallow **", false, failed(0, "a.c", "a.c b.c c.h src/d.c")}, {"disallow **", true, failed(0, "a.c", "a.c b.c out/a src/d.c")}, {"disallow *.h", false, failed(0, "c.h", "a.c b.c c.h src/d.c")}, {"disallow */*", true, failed(0, "out/a", "a.c b.c out/a src/d.c")},
		{"allow a*; disallow *", false, failed(1, "b.c", "b.c c.h src/d.c")}, {"allow a*; allow b*; allow *.h; disallow **", false, failed(3, "src/d.c", "src/d.c")}, {"create **; modify **; disallow **.c", true, failed(2, "a.c", "a.c src/d.c")}, {"disallow z; disallow src; disallow src/*; allow **", false, failed(2, "src/d.c", "a.c b.c c.h src/d.c")},
		{"require z", false, failed(0, "", "a.c b.c c.h src/d.c")}, {"require out/a", false, failed(0, "", "a.c b.c c.h src/d.c")}, {"require out/a; require c.h", true, failed(1, "", "a.c b.c out/a src/d.c")}, {"require b.c; allow b.c; require b.c; allow **", false, failed(2, "", "a.c c.h src/d.c")},
		{"allow **; require **", false, failed(1, "", "")}, {"match ** fetch products ~ ~; disallow a.c; disallow b.c", false, failed(2, "b.c", "b.c c.h src/d.c")}, {"modify b.c; require b.c", true, failed(1, "", "a.c out/a src/d.c")}, {"delete **; require *.h", false, failed(1, "", "a.c b.c src/d.c")},
		{"require a.c; disallow b.c; require z; disallow **", false, failed(1, "b.c", "a.c b.c c.h src/d.c")}, {"disallow b.c; disallow a.c", false, failed(0, "b.c", "a.c b.c c.h src/d.c")}, {"disallow *c*; require z", true, failed(0, "a.c", "a.c b.c out/a src/d.c")},
	} {
		expectApply(t, x.rules, list(x.rules), x.products, step(), earlier(), x.want)
	}
}

// Promise 13.3: a rule that is not valid fails when it is reached, and not before.
func TestInvalidRules(t *testing.T) {
	good := list("allow a*; modify b*; require c.h; delete *.h; match * fetch materials src src")
	queues := []string{"a.c b.c c.h src/d.c", "b.c c.h src/d.c", "c.h src/d.c", "c.h src/d.c", "src/d.c", ""}
	for _, x := range invalidRules() {
		for i, queue := range queues {
			l := slices.Insert(slices.Clone(good), i, x.r)
			expectApply(t, fmt.Sprintf("%s before rule %d", x.name, i), l, false, step(), earlier(), failed(i, "", queue))
		}
		for i := range good {
			l := slices.Clone(good)
			l[i] = x.r
			expectApply(t, fmt.Sprintf("%s for rule %d", x.name, i), l, false, step(), earlier(), failed(i, "", queues[i]))
		}
		expectApply(t, x.name+" after a failure", []api.Rule{rule("disallow b*"), x.r}, false, step(), earlier(), failed(0, "b.c", queues[0]))
		expectApply(t, x.name+" without files", []api.Rule{x.r}, true, api.Link{}, nil, failed(0, "", ""))
	}
}

// Promise 13.3: a side without files, and steps without others.
func TestNoFiles(t *testing.T) {
	for _, products := range []bool{false, true} {
		for _, x := range []struct {
			rules string
			want  api.RuleResult
		}{
			{"", left("")}, {"allow **", left("")}, {"create **; modify **; delete **", left("")}, {"match ** a products ~ ~", left("")}, {"disallow **", left("")}, {"require **", failed(0, "", "")}, {"disallow **; require a", failed(1, "", "")},
		} {
			expectApply(t, x.rules, list(x.rules), products, api.Link{}, nil, x.want)
			expectApply(t, x.rules, list(x.rules), products, api.Link{Materials: []api.Entry{}, Products: []api.Entry{}}, []api.Link{}, x.want)
			expectApply(t, x.rules, list(x.rules), products, api.Link{}, earlier(), x.want)
		}
	}
}

// Promise 13.3: every state that a path can have, for each kind of rule: in each side missing, or with one of three digests, one of which is zero.
func TestStates(t *testing.T) {
	for _, before := range []string{"", "0", "1", "2"} {
		for _, after := range []string{"", "0", "1", "2"} {
			self := link("s", "a=1 z=1", "a=1 z=1")
			if before != "" {
				self.Materials = append(self.Materials, files("p="+before)...)
			}
			if after != "" {
				self.Products = append(self.Products, files("p="+after)...)
			}
			for word, removed := range map[string]bool{
				"create": before == "" && after != "",
				"modify": before != "" && after != "" && before != after,
				"delete": before != "" && after == "",
				"allow":  true,
			} {
				for _, products := range []bool{false, true} {
					want := left("a z")
					there := before
					if products {
						there = after
					}
					if there != "" && !removed {
						want = left("a z p")
					}
					expectApply(t, fmt.Sprintf("%s %q to %q", word, before, after), list(word+" p"), products, self, nil, want)
					if there != "" {
						expectApply(t, fmt.Sprintf("another path %s %q to %q", word, before, after), list(word+" q"), products, self, nil, left("a z p"))
					}
				}
			}
		}
	}
}

// Promise 13.3: every state that a path can have in the step from which it is matched, with both sides of both steps.
func TestMatchStates(t *testing.T) {
	for _, ours := range []string{"0", "1", "2"} {
		for _, before := range []string{"", "0", "1", "2"} {
			for _, after := range []string{"", "0", "1", "2"} {
				other := link("t", "a=1 z=1", "a=1 z=1")
				if before != "" {
					other.Materials = append(other.Materials, files("to/p="+before)...)
				}
				if after != "" {
					other.Products = append(other.Products, files("to/p="+after)...)
				}
				for _, products := range []bool{false, true} {
					self := api.Link{Step: "s", Materials: files("in/p=" + ours)}
					if products {
						self.Materials, self.Products = nil, self.Materials
					}
					for side, theirs := range map[string]string{"materials": before, "products": after} {
						want := left("in/p")
						if theirs == ours {
							want = left("")
						}
						name := fmt.Sprintf("%s in %s: %q, %q, products %t", ours, side, before, after, products)
						expectApply(t, name, list("match p t "+side+" in to"), products, self, []api.Link{other}, want)
						expectApply(t, name+", another pattern", list("match q t "+side+" in to"), products, self, []api.Link{other}, left("in/p"))
						expectApply(t, name+", another step", list("match p s "+side+" in to"), products, self, []api.Link{other}, left("in/p"))
					}
				}
			}
		}
	}
}

// Promise 13.3: the examined side has the digest that counts, not the other one.
func TestMatchExaminedSide(t *testing.T) {
	self := link("s", "p=1", "p=2")
	for n, d := range []string{"1", "2"} {
		done := []api.Link{link("t", "", "p="+d)}
		for i, products := range []bool{false, true} {
			want := left("p")
			if i == n {
				want = left("")
			}
			expectApply(t, fmt.Sprintf("%s, products %t", d, products), list("match p t products ~ ~"), products, self, done, want)
		}
	}
}

// Promise 13.3: only the first link of a step counts, whatever it has, and whichever stand around it.
func TestMatchFirstLink(t *testing.T) {
	self := link("s", "p=1", "")
	right, wrong, none := link("t", "", "p=1"), link("t", "", "p=2"), link("t", "", "")
	other := link("u", "", "p=1")
	l := list("match p t products ~ ~")
	for _, x := range []struct {
		name string
		done []api.Link
		want string
	}{
		{"right", []api.Link{right}, ""}, {"wrong", []api.Link{wrong}, "p"}, {"none", []api.Link{none}, "p"}, {"other", []api.Link{other}, "p"},
		{"right, wrong", []api.Link{right, wrong}, ""}, {"wrong, right", []api.Link{wrong, right}, "p"}, {"none, right", []api.Link{none, right}, "p"}, {"right, none", []api.Link{right, none}, ""},
		{"other, right", []api.Link{other, right}, ""}, {"other, wrong, right", []api.Link{other, wrong, right}, "p"}, {"other, other, other, right, wrong", []api.Link{other, other, other, right, wrong}, ""}, {"self", []api.Link{self}, "p"},
	} {
		expectApply(t, x.name, l, false, self, x.done, left(x.want))
	}
	for _, name := range []string{"", "T", "t ", "t\x00", "tt", "s"} {
		renamed := right
		renamed.Step = name
		expectApply(t, fmt.Sprintf("%q", name), l, false, self, []api.Link{renamed}, left("p"))
		expectApply(t, fmt.Sprintf("%q first", name), l, false, self, []api.Link{renamed, wrong}, left("p"))
		expectApply(t, fmt.Sprintf("%q, wrong first", name), l, false, self, []api.Link{wrong, renamed}, left("p"))
	}
}

// Promise 13.3: a path lies under a directory only with a slash between them, and it is the rest that the pattern matches and that is looked for.
func TestMatchDirectories(t *testing.T) {
	self := link("s", "a=1 a/b=1 a/b/c=1 ab=1 ab/c=1 b=1 b/c=1 c=1 c/a/b=1", "")
	all := []api.Link{link("t", "", "a=1 a/b=1 a/b/c=1 ab=1 ab/c=1 b=1 b/c=1 c=1 c/a/b=1 to/a=1 to/b=1 to/b/c=1 to/c=1 to/x/b/c=1")}
	for _, x := range []struct{ rule, removed string }{
		{"match ** t products ~ ~", "a a/b a/b/c ab ab/c b b/c c c/a/b"}, {"match ** t products a ~", "a/b a/b/c"}, {"match ** t products a a", "a/b a/b/c"}, {"match * t products a a", "a/b"}, {"match a/* t products a a", ""}, {"match a/* t products ~ ~", "a/b"},
		{"match ** t products a/b ~", "a/b/c"}, {"match ** t products a/b a/b", "a/b/c"}, {"match ** t products a/b a", ""}, {"match ** t products a/b/c ~", ""}, {"match ** t products a/b/c/d ~", ""}, {"match ** t products a/ ~", "fails"}, {"match ** t products b b", "b/c"}, {"match ** t products ab a/b", "ab/c"},
		{"match ** t products ~ to", "a b b/c c"}, {"match ** t products a to", "a/b a/b/c"}, {"match * t products a to", "a/b"}, {"match b/c t products a to", "a/b/c"}, {"match ** t products c ~", "c/a/b"}, {"match ** t products c/a ~", "c/a/b"}, {"match ** t products c/a to", "c/a/b"}, {"match ** t products ~ to/x", "b/c"}, {"match ** t products a to/x", "a/b/c"},
		{"match ** t products x ~", ""}, {"match ** t products ~ x", ""}, {"match ** t products to to", ""}, {"match ? t products ~ ~", "a b c"}, {"match ?? t products ~ ~", "ab"}, {"match ?/? t products ~ ~", "a/b b/c"}, {"match *c t products ~ ~", "c"}, {"match **c t products ~ ~", "a/b/c ab/c b/c c"}, {"match ?c t products ~ ~", ""}, {"match /* t products a ~", ""}, {"match *b t products a to", "a/b"},
	} {
		want := api.RuleResult{Failed: -1}
		if x.removed == "fails" {
			want.Failed, x.removed = 0, ""
		}
		for _, path := range strings.Fields("a a/b a/b/c ab ab/c b b/c c c/a/b") {
			if !slices.Contains(strings.Fields(x.removed), path) {
				want.Left = append(want.Left, path)
			}
		}
		expectApply(t, x.rule, list(x.rule), false, self, all, want)
	}
}

// Promise 13.3: a path that would become too long at the other place is nowhere there, also if there is such an entry.
func TestMatchLongPaths(t *testing.T) {
	for _, in := range []string{"", "in"} {
		for _, n := range []int{1, 2, 100, 195} {
			rest := strings.Repeat("r", n)
			path := strings.TrimPrefix(in+"/"+rest, "/")
			for size := 190; size <= 210; size++ {
				// A shorter directory would have no bytes, and a longer one is none.
				to := strings.Repeat("t", max(1, min(200, size-n-1)))
				there := to + "/" + rest
				self := api.Link{Products: files(path + "=1")}
				done := []api.Link{{Step: "s", Materials: files(there+"=1", rest+"=1", "=1")}}
				l := []api.Rule{{Kind: api.MatchRule, Pattern: "**", From: "s", In: in, To: to}}
				want := left(path)
				if len(there) <= 200 {
					want = left("")
				}
				expectApply(t, fmt.Sprintf("%d bytes in %q to %d bytes", n, in, len(there)), l, true, self, done, want)
			}
		}
	}
}

// noPaths returns texts that are no paths, but like some.
func noPaths() []string {
	return []string{"", "/", "//", "/x", "x/", "x//y", ".", "..", "./x", "x/.", "x/..", "x/./y", "x\x00", "\x00", strings.Repeat("x", 201), strings.Repeat("x/", 100), strings.Repeat("x", 1<<16)}
}

// Promise 13.3: what is no path stays in the queue, whatever the rules are, and no rule is about it.
func TestNoPaths(t *testing.T) {
	var all []api.Entry
	for _, path := range noPaths() {
		all = append(all, api.Entry{Path: path, Digest: some("1")})
	}
	done := []api.Link{{Step: "t", Materials: all, Products: all}}
	everywhere := list("allow **; disallow **; create **; modify **; delete **; match ** t products ~ ~; match ** t materials ~ ~; match ** t products x ~; match ** t products ~ x; match ** t products x x; disallow *; disallow */*; disallow ?; disallow **/**")
	for _, path := range noPaths() {
		everywhere = append(everywhere, api.Rule{Kind: api.DisallowRule, Pattern: "**" + path[:min(len(path), 150)]})
	}
	everywhere = slices.DeleteFunc(everywhere, func(r api.Rule) bool { return !modelValid(r) })
	for _, other := range [][]api.Entry{nil, all, {{Path: "", Digest: some("2")}}} {
		for _, self := range []api.Link{{Materials: all, Products: other}, {Materials: other, Products: all}} {
			for _, products := range []bool{false, true} {
				var want []string
				for _, x := range sideOf(self, products) {
					want = append(want, x.Path)
				}
				expectApply(t, "no paths", everywhere, products, self, done, api.RuleResult{Left: want, Failed: -1})
				for _, p := range []string{"**", "*", "?", "/", "//", ".", "..", "./x", "x/", "/x", "x//y", "x/..", "x/."} {
					l := []api.Rule{{Kind: api.RequireRule, Pattern: p}}
					expectApply(t, "require "+p, l, products, self, done, api.RuleResult{Left: want})
				}
			}
		}
	}
}

// Promise 13.3: lists that are no snapshots: paths stay in their order, and the first entry with a path has its digest.
func TestRepeatedPaths(t *testing.T) {
	self := link("s", "b=1 a=1 b=2 c=1 a=1 b=1", "b=2 d=1 d=2 a=1 a=2 b=1")
	other := link("t", "b=2 b=1 a=2 d=2", "b=1 b=2 a=1 d=1 d=2")
	for _, x := range []struct{ rules, materials, products string }{
		{"", "b a b c a b", "b d d a a b"}, {"allow a", "b b c b", "b d d b"}, {"allow b", "a c a", "d d a a"}, {"modify **", "a c a", "d d a a"}, {"modify a", "b a b c a b", "b d d a a b"},
		{"create **", "b a b c a b", "b a a b"}, {"delete **", "b a b a b", "b d d a a b"}, {"match ** t materials ~ ~", "b a b c a b", "d d a a"}, {"match ** t products ~ ~", "c", "b b"}, {"require b; allow c; allow d; allow b", "a a", "a a"},
	} {
		expectApply(t, x.rules, list(x.rules), false, self, []api.Link{other}, left(x.materials))
		expectApply(t, x.rules, list(x.rules), true, self, []api.Link{other}, left(x.products))
	}
	expectApply(t, "the first of several", list("allow b; disallow **"), false, self, nil, failed(1, "a", "a c a"))
	expectApply(t, "the first of several", list("allow b; disallow **"), true, self, nil, failed(1, "d", "d d a a"))
}

// Promise 13.3: patterns of all sorts are matched as a whole, and bytewise.
func TestPatterns(t *testing.T) {
	paths := []string{"a", "ab", "abc", "a.c", "a/b", "a/b/c", ".a", "...", "*", "?", `\`, "**", " ", "~", "é", "\xff", "\n", "a\nb", strings.Repeat("a", 200), "x/" + strings.Repeat("y", 198)}
	var all []api.Entry
	for i, path := range paths {
		all = append(all, api.Entry{Path: path, Digest: some(fmt.Sprint(i))})
	}
	patterns := append(slices.Clone(paths), "*", "**", "?", "??", "a*", "*a", "a**", "**a", "*/*", "**/**", "*/**/*", "?/?", "a?b", "a*b", `\*`, `\?`, `\\`, `\a`, `\a\b`, `*\*`, "*\xff*", "[a-z]", "{a,b}", "a|b", "^a$", "(a)", ".", ".*", "a+", strings.Repeat("*", 200), strings.Repeat("?", 200), strings.Repeat("a*", 100))
	kinds := 0
	for _, p := range patterns {
		for kind := 1; kind <= 7; kind++ {
			r := api.Rule{Kind: kind, Pattern: p}
			if kind == 1 {
				r.From = "t"
			}
			for _, self := range []api.Link{{Materials: all}, {Materials: all, Products: []api.Entry{}}, {Materials: all, Products: slices.Repeat(all[:1], 3)}} {
				got := expectModel(t, fmt.Sprintf("%.100q", fmt.Sprint(r)), []api.Rule{r}, false, self, []api.Link{{Step: "t", Materials: all}})
				if modelValid(r) && (len(got.Left) < len(all) || got.Failed >= 0) {
					kinds |= 1 << kind
				}
			}
		}
	}
	// Nothing is created or modified here.
	if kinds != 1<<1|1<<4|1<<5|1<<6|1<<7 {
		t.Errorf("%b", kinds)
	}
}

// Promises 13.3 and 13.4: every list of up to three rules of all kinds.
func TestEveryListOfRules(t *testing.T) {
	texts := []string{"match * t products ~ ~", "match ** t materials d ~", "match ** t products ~ d", "create **", "modify **", "delete *", "allow a", "allow d/*", "disallow b", "disallow d/*", "require a", "require **", "allow ~", "match ** u products ~ ~"}
	done := []api.Link{link("t", "x=1 y=5 z=1", "a=1 b=2 d/a=1 d/d/x=1"), link("u", "", "a=9 x=1 b=9"), link("t", "a=1 d/x=1", "a=1 b=2 x=1")}
	selves := []api.Link{link("s", "a=1 b=2 d/x=1 d/y=2 e=1", "a=1 b=3 c=1 d/x=2"), link("s", "d/z=1 d/x=1 b=2", "x=1 d/x=1 a=9 b=9"), {}}
	results := map[int]int{}
	every(texts, 3, func(words []string) {
		l := list(strings.Join(words, "; "))
		for _, self := range selves {
			for _, products := range []bool{false, true} {
				results[expectModel(t, strings.Join(words, "; "), l, products, self, done).Failed]++
			}
		}
	})
	for i := -1; i < 3; i++ {
		if results[i] < 900 {
			t.Errorf("only %d results of %d", results[i], i)
		}
	}
}

// A world makes steps and rules of few words, so that they often meet.
type world struct{ *rand.Rand }

func (w world) of(words ...string) string { return words[w.IntN(len(words))] }

func (w world) path() string {
	return w.of("", "", "d/", "d/e/", "f/") + w.of("a", "b", "c", "a.c", "d") + w.of("", "", "", ".h", "/x", "*")
}

func (w world) side() []api.Entry {
	var s []api.Entry
	for range w.IntN(9) {
		s = append(s, files(w.path()+"="+w.of("1", "1", "2", "3"))...)
	}
	if w.IntN(9) == 0 {
		return append(s, files(w.of("", "/", "d/", "d//a", "..")+"=1")...)
	}
	return s
}

func (w world) pattern() string {
	return w.of("*", "**", "**", "a*", "?", "*.c", "d/*", "d/**", "**/a", "*/*", `*\*`, w.path())
}

func (w world) directory() string { return w.of("", "", "", "d", "d/e", "f", "a", "d/") }

func (w world) rule() api.Rule {
	r := api.Rule{Kind: w.IntN(7) + 1, Pattern: w.pattern()}
	if r.Kind >= api.DisallowRule && w.IntN(3) > 0 {
		r.Kind = api.MatchRule
	}
	if r.Kind == api.MatchRule {
		r.From, r.Products, r.In, r.To = w.of("s", "t", "u", "v"), w.IntN(2) == 0, w.directory(), w.directory()
	}
	return r
}

func (w world) link() api.Link {
	return api.Link{Step: w.of("s", "t", "u"), Materials: w.side(), Products: w.side()}
}

// Promises 13.3 and 13.4: steps and rules of all sorts, many times.
func TestManySteps(t *testing.T) {
	w := world{rand.New(rand.NewPCG(13, 3))}
	results := map[int]int{}
	for i := range 40000 {
		var l []api.Rule
		for range w.IntN(7) {
			l = append(l, w.rule())
		}
		var done []api.Link
		for range w.IntN(4) {
			done = append(done, w.link())
		}
		self, products := w.link(), w.IntN(2) == 0
		got := expectModel(t, fmt.Sprintf("step %d", i), l, products, self, done)
		if len(got.Left) < len(sideOf(self, products)) {
			got.Failed += 10
		}
		results[got.Failed]++
	}
	for _, i := range []int{-1, 0, 1, 2, 3, 4, 9, 11, 12, 13, 14} {
		if results[i] < 30 {
			t.Errorf("only %d results of %d", results[i], i)
		}
	}
}

// Promise 13.4: rules that do not fail leave a part of the paths, in their order, and each rule of a list does what it does alone with what the ones before it leave.
func TestRulesOneByOne(t *testing.T) {
	w := world{rand.New(rand.NewPCG(13, 4))}
	for i := range 5000 {
		var l []api.Rule
		for range 5 {
			l = append(l, w.rule())
		}
		self, done := w.link(), []api.Link{w.link(), w.link()}
		last := rules.Apply(nil, false, self, done)
		for n := 1; n <= len(l); n++ {
			got := rules.Apply(l[:n], false, self, done)
			if last.Failed >= 0 {
				expectResult(t, fmt.Sprintf("step %d, %d rules", i, n), got, last)
				continue
			}
			if got.Failed >= 0 && (got.Failed != n-1 || !slices.Equal(got.Left, last.Left)) || !isPart(got.Left, last.Left) {
				t.Errorf("%v after %v: %v", got, last, l[:n])
			}
			last = got
		}
	}
}

// isPart reports whether the elements of part are in whole, in the same order.
func isPart(part, whole []string) bool {
	for _, x := range whole {
		if len(part) > 0 && part[0] == x {
			part = part[1:]
		}
	}
	return len(part) == 0
}

// Promise 13.6: strict rules that do not fail leave nothing of a side whose paths are paths, and each of these was removed by a rule that is about it.
func TestStrictLeavesNothing(t *testing.T) {
	w := world{rand.New(rand.NewPCG(13, 6))}
	passed, removed := 0, 0
	for range 20000 {
		var l []api.Rule
		for range w.IntN(6) {
			l = append(l, w.rule())
		}
		l = append(l, rule("disallow **"))
		self, done, products := w.link(), []api.Link{w.link(), w.link()}, w.IntN(2) == 0
		files := sideOf(self, products)
		correct := !slices.ContainsFunc(files, func(x api.Entry) bool { return !isPath(x.Path) })
		got := rules.Apply(l, products, self, done)
		if !correct || got.Failed >= 0 || !rules.Strict(l) {
			continue
		}
		passed++
		if len(got.Left) > 0 {
			t.Errorf("%v leaves %q", l, got.Left)
		}
		for _, x := range files {
			removed++
			if !slices.ContainsFunc(l, func(r api.Rule) bool { return removes(r, x, self, firsts(files), done) }) {
				t.Errorf("no rule removes %q: %v", x.Path, l)
			}
		}
	}
	if passed < 500 || removed < 500 {
		t.Errorf("only %d lists and %d paths", passed, removed)
	}
}

// removes reports whether the rule r removes a file of a step.
func removes(r api.Rule, x api.Entry, self api.Link, digests map[string]api.Digest, done []api.Link) bool {
	switch r.Kind {
	case 1:
		return modelShared(r, x.Path, digests[x.Path], done)
	case 2, 3, 4:
		return modelMatches(r.Pattern, x.Path) && modelState(self, x.Path) == r.Kind
	}
	return r.Kind == 5 && modelMatches(r.Pattern, x.Path)
}

// Promise 13.3: what is created, modified and deleted are the changes from one valid snapshot to another one.
func TestRulesAndChanges(t *testing.T) {
	w := world{rand.New(rand.NewPCG(13, 5))}
	changes := 0
	for range 3000 {
		before, first := snapshot.Make(w.side())
		after, second := snapshot.Make(w.side())
		self := api.Link{Step: "s", Materials: before, Products: after}
		l, e := snapshot.Diff(before, after)
		if first != api.OK || second != api.OK || e != api.OK {
			continue
		}
		var rest [2][]string
		for i, products := range []bool{false, true} {
			for _, x := range sideOf(self, products) {
				if !slices.ContainsFunc(l, func(c api.Change) bool { return c.Path == x.Path }) {
					rest[i] = append(rest[i], x.Path)
				}
			}
			changes += len(l)
			expectApply(t, fmt.Sprint(l), list("create **; modify **; delete **"), products, self, nil, api.RuleResult{Left: rest[i], Failed: -1})
		}
		if !slices.Equal(rest[0], rest[1]) {
			t.Errorf("%q and %q", rest[0], rest[1])
		}
	}
	if changes < 5000 {
		t.Errorf("only %d changes", changes)
	}
}

// Promise 13.3: lists of rules, files and links that are longer than a layout or a record can have.
func TestLongLists(t *testing.T) {
	paths := numbered("f%04d", 500)
	var all []api.Entry
	for i, path := range paths {
		all = append(all, api.Entry{Path: path, Digest: some(fmt.Sprint(i % 7))})
	}
	self := api.Link{Materials: all, Products: all[:400]}
	var l []api.Rule
	for i, path := range paths[:300] {
		l = append(l, api.Rule{Kind: api.AllowRule, Pattern: path})
		want := api.RuleResult{Left: paths[i+1:], Failed: -1}
		if i%50 == 0 || i == 31 || i == 32 {
			expectApply(t, fmt.Sprintf("%d rules", i+1), l, false, self, nil, want)
		}
	}
	expectApply(t, "deleted", append(l, rule("delete **"), rule("disallow **")), false, self, nil, api.RuleResult{Left: paths[300:400], Failed: 301, Path: paths[300]})
	done := slices.Repeat([]api.Link{link("t", "", "a=1")}, 400)
	done = append(done, api.Link{Step: "u", Materials: all})
	expectApply(t, "matched", append(l, rule("match *[02468] t products ~ ~"), rule("match *0 u materials ~ ~"), rule("match * u products ~ ~")), false, self, done, api.RuleResult{Left: slices.DeleteFunc(slices.Clone(paths[300:]), func(s string) bool { return s[4] == '0' }), Failed: -1})
}

// Rule R1: the longest paths and patterns, in the greatest lists of a layout.
func TestLongWords(t *testing.T) {
	self, other := api.Link{Step: "s"}, api.Link{Step: "t"}
	for i := range 64 {
		path := strings.Repeat("a", 190) + fmt.Sprintf("/%04d", i)
		self.Materials = append(self.Materials, files(path+"=1")...)
		other.Products = append(other.Products, files(path[100:]+"=1")...)
	}
	worst := strings.Repeat("**a", 66)
	var l []api.Rule
	for range 31 {
		l = append(l, api.Rule{Kind: api.MatchRule, Pattern: worst, From: "t", Products: true}, api.Rule{Kind: api.DisallowRule, Pattern: worst})
	}
	if got := rules.Apply(append(l, rule("disallow **")), false, self, []api.Link{other}); got.Failed != 62 || len(got.Left) != 64 || got.Path != self.Materials[0].Path {
		t.Errorf("%d %d", got.Failed, len(got.Left))
	}
}

// Rule R4: neither the arguments nor the memory after them are modified.
func TestArgumentsStay(t *testing.T) {
	for _, texts := range []string{"", "allow *", "disallow **", "require z", "match ** fetch products ~ pkg", "create **; modify **; delete **; match ** lint materials ~ ~; allow a*; disallow *"} {
		for _, products := range []bool{false, true} {
			mark, entry, other := rule("allow mark"), files("mark=1")[0], link("mark", "", "")
			l := marked(list(texts), mark)
			self := step()
			self.Materials, self.Products = marked(self.Materials, entry), marked(self.Products, entry)
			var done []api.Link
			for _, x := range earlier() {
				done = append(done, api.Link{Step: x.Step, Materials: marked(x.Materials, entry), Products: marked(x.Products, entry)})
			}
			done = marked(done, other)
			for range 2 {
				rules.Apply(l, products, self, done)
			}
			bad := !slices.Equal(l, list(texts)) || unmarked(l, mark) || !same(self, step()) || !slices.EqualFunc(done, earlier(), same)
			for _, x := range append([]api.Link{self}, done...) {
				bad = bad || unmarked(x.Materials, entry) || unmarked(x.Products, entry)
			}
			for _, x := range done[len(done):cap(done)] {
				bad = bad || !same(x, other)
			}
			if bad {
				t.Errorf("%s modified an argument", texts)
			}
		}
	}
}

func same(a, b api.Link) bool {
	return a.Step == b.Step && slices.Equal(a.Materials, b.Materials) && slices.Equal(a.Products, b.Products)
}

// The rule of the language that results are new memory: who writes to one does not change a later one.
func TestResultsAreNew(t *testing.T) {
	self, l := step(), list("allow a*; match ** lint materials ~ ~")
	for _, n := range []int{0, 1, 2} {
		first := rules.Apply(l[:n], false, self, earlier())
		want := slices.Clone(first.Left)
		second := rules.Apply(l[:n], false, self, earlier())
		clear(first.Left[:cap(first.Left)])
		if !slices.Equal(second.Left, want) || !same(self, step()) {
			t.Errorf("%d rules: %q", n, second.Left)
		}
		if got := rules.Apply(l[:n], false, self, earlier()); !slices.Equal(got.Left, want) {
			t.Errorf("%d rules, again: %q", n, got.Left)
		}
	}
}
