package agreement_test

import (
	"fmt"
	"math/rand"
	"slices"
	"strings"
	"sync"
	"testing"

	"admission/agreement"
	"admission/api"
)

// expectSame checks Same in both orders, whatever the steps are, and that it is what the model says.
func expectSame(t *testing.T, name string, a, b api.Link, want bool) {
	t.Helper()
	for _, s := range []string{"build", "test", ""} {
		b.Step = s
		if agreement.Same(a, b) != want || agreement.Same(b, a) != want || modelSame(a, b) != want {
			t.Errorf("%.300s: same is not %v", name, want)
		}
	}
}

// Promise 15.1: every pair of links of few files, in every order of them, valid snapshots or not.
func TestSame(t *testing.T) {
	var sides []string
	every([]string{"a", "A", "b"}, 2, func(l []string) { sides = append(sides, strings.Join(l, "")) })
	var texts []string
	for _, materials := range sides {
		for _, products := range sides {
			texts = append(texts, materials+">"+products)
		}
	}
	for i, x := range texts {
		for _, y := range texts[i:] {
			expectSame(t, x+" and "+y, link(x), link(y), x == y)
		}
	}
}

// Promise 15.1: links whose files differ in one path or in one byte of a digest.
func TestSameFiles(t *testing.T) {
	for _, x := range oddTexts() {
		for _, y := range oddTexts() {
			a, b := []api.Entry{{Path: "0"}, {Path: x}}, []api.Entry{{Path: "0"}, {Path: y}}
			expectSame(t, fmt.Sprintf("%.70q and %.70q consumed", x, y), api.Link{Materials: a}, api.Link{Materials: b}, x == y)
			expectSame(t, fmt.Sprintf("%.70q and %.70q produced", x, y), api.Link{Products: a}, api.Link{Products: b}, x == y)
		}
	}
	everyBit(func(name string, k api.Link) { expectSame(t, name, link("abc>de"), k, false) })
}

// everyBit calls visit with every link that differs from abc>de in one bit of a digest.
func everyBit(visit func(name string, k api.Link)) {
	for file := range 5 {
		for i := range 32 {
			for bit := range 8 {
				k := link("abc>de")
				all := []*api.Entry{&k.Materials[0], &k.Materials[1], &k.Materials[2], &k.Products[0], &k.Products[1]}
				all[file].Digest[i] ^= 1 << bit
				visit(fmt.Sprintf("bit %d of byte %d of file %d", bit, i, file), k)
			}
		}
	}
}

// Promise 15.1: no files, and many of them.
func TestSameSizes(t *testing.T) {
	none := []api.Entry{}
	expectSame(t, "no files", api.Link{}, api.Link{}, true)
	expectSame(t, "empty lists", api.Link{Materials: none, Products: none}, api.Link{}, true)
	expectSame(t, "empty materials", api.Link{Materials: none, Products: files("a")}, api.Link{Products: files("a")}, true)
	expectSame(t, "empty products", api.Link{Materials: files("a"), Products: none}, api.Link{Materials: files("a")}, true)
	for _, n := range []int{1, 2, 63, 64, 65, 128, 1000} {
		s := files(strings.Repeat("a", n))
		longer, other := append(slices.Clip(s), s[0]), slices.Clone(s)
		other[n-1].Digest[31]++
		expectSame(t, fmt.Sprint(n, " materials"), api.Link{Materials: s}, api.Link{Materials: slices.Clone(s)}, true)
		expectSame(t, fmt.Sprint(n, " products"), api.Link{Products: s}, api.Link{Products: slices.Clone(s)}, true)
		for _, b := range [][]api.Entry{s[1:], longer, other, nil} {
			expectSame(t, fmt.Sprint(n, " and other materials"), api.Link{Materials: s}, api.Link{Materials: b}, false)
			expectSame(t, fmt.Sprint(n, " and other products"), api.Link{Products: s}, api.Link{Products: b}, false)
		}
	}
}

// Promise 15.2: records that are eligible, in their order, and others.
func TestEligible(t *testing.T) {
	l := list("a:a>b f:a>b b:>b a:a>b e:A>")
	spec := step(1)
	expectEligible(t, "an owner who may not", spec, l, list("a:a>b b:>b a:a>b e:A>"))
	expectEligible(t, "no records", spec, nil, nil)
	expectEligible(t, "no owners", api.StepSpec{Name: "build", Threshold: 1}, l, nil)
	expectEligible(t, "the zero step", api.StepSpec{}, l, nil)
	expectEligible(t, "the zero step and record", api.StepSpec{}, make([]api.Attested, 3), nil)
	expectEligible(t, "empty names", api.StepSpec{By: []string{""}}, make([]api.Attested, 3), make([]api.Attested, 3))
	l[0].Record.Step = "test"
	l[2].Record.Command = []string{"make"}
	expectEligible(t, "another step and another command", spec, l, l[3:])
	spec.Command = nil
	expectEligible(t, "any command", spec, l, l[2:])
	spec.Name = "test"
	expectEligible(t, "the other step", spec, l, l[:1])
}

// Promise 15.2: owners and steps of all sorts.
func TestEligibleTexts(t *testing.T) {
	for _, x := range oddTexts() {
		for _, y := range oddTexts() {
			spec, said := step(1), says("a", "a>b")
			spec.Name, said.Record.Step = x, y
			expectEligible(t, fmt.Sprintf("step %.70q of %.70q", y, x), spec, []api.Attested{said}, []api.Attested{said}[:count(x == y)])
			spec, said = step(1), says(y, "a>b")
			for _, by := range [][]string{{x}, {x, x, x}, {"~~", x, "!"}, {"!", "~~", "~~", x}, {x, "\xff\xff", "0"}} {
				spec.By = by
				expectEligible(t, fmt.Sprintf("owner %.70q of %.70q", y, by), spec, []api.Attested{said}, []api.Attested{said}[:count(x == y)])
			}
		}
	}
}

func count(b bool) int {
	if b {
		return 1
	}
	return 0
}

// Promise 15.2: every pair of short commands.
func TestEligibleCommands(t *testing.T) {
	var commands [][]string
	every([]string{"", "make", "all", "make all"}, 3, func(l []string) { commands = append(commands, slices.Clone(l)) })
	for _, x := range append(commands, []string{}) {
		for _, y := range append(commands, []string{}) {
			spec, said := step(1), says("b", ">")
			spec.Command, said.Record.Command = x, y
			expectEligible(t, fmt.Sprintf("command %q of %q", y, x), spec, []api.Attested{said}, []api.Attested{said}[:count(len(x) == 0 || slices.Equal(x, y))])
		}
	}
	spec, said := step(1), says("c", ">")
	spec.Command, said.Record.Command = numbered("", 1000), numbered("", 1000)
	expectEligible(t, "a long command", spec, []api.Attested{said}, []api.Attested{said})
	said.Record.Command[999] = ""
	expectEligible(t, "another long command", spec, []api.Attested{said}, nil)
}

// others returns a record of the step build that differs from what says returns in all that does not count.
func others(owner, text string) api.Attested {
	return changed(says(owner, text), func(r *api.Record) {
		r.Run, r.Scope, r.At, r.Env = "another", "a/b/c/d/e", -1, []api.Variable{{Name: "b", Value: "1"}, {Name: "a"}, {Name: "a"}}
	})
}

// Promise 15.2: whatever else the step and the record say.
func TestEligibleOtherwise(t *testing.T) {
	long := says("a", "")
	long.Record.Materials = files(strings.Repeat("z", 65))
	for _, x := range []api.Attested{says("a", ">"), others("a", "a>b"), says("a", "ba>ba"), says("a", "aaA>"), long} {
		for _, threshold := range []int{-1, 0, 1, 6, 1 << 30} {
			spec := step(threshold)
			expectEligible(t, "another threshold", spec, []api.Attested{x}, []api.Attested{x})
			spec.Delegated, spec.Materials, spec.Products = true, []api.Rule{{Kind: api.DisallowRule, Pattern: "**"}}, []api.Rule{{Kind: 99}}
			expectEligible(t, "rules that it does not keep", spec, []api.Attested{x}, []api.Attested{x})
		}
	}
}

// Promise 15.3: who is in which camp, and in which order the camps and their owners are.
func TestCamps(t *testing.T) {
	for _, x := range []struct{ records, camps, equivocators string }{
		{"", "", ""}, {"f:a>b", "", ""}, {"a:a>b", "a:a>b", ""}, {"a:>", "a:>", ""}, {"a:a>b a:a>b a:a>b", "a:a>b", ""},
		{"b:a>b a:a>b", "a,b:a>b", ""}, {"e:> d:> c:> b:> a:>", "a,b,c,d,e:>", ""}, {"c:a> a:a> c:a> b:a> a:a>", "a,b,c:a>", ""}, {"f:a>b a:a>b", "a:a>b", ""},
		{"a:a>b b:b>a", "a:a>b b:b>a", ""}, {"b:a>b a:b>a", "a:b>a b:a>b", ""}, {"a:a>b c:b>a b:b>a", "b,c:b>a a:a>b", ""}, {"a:a>b d:a>b c:b>a b:b>a", "a,d:a>b b,c:b>a", ""}, {"e:> c:a> d:> a:a> b:b>", "a,c:a> d,e:> b:b>", ""},
		{"a:c> b:b> c:a>", "a:c> b:b> c:a>", ""}, {"a:c> b:b> c:a> d:a>", "c,d:a> a:c> b:b>", ""}, {"e:a> d:b> c:c> b:d> a:e>", "a:e> b:d> c:c> d:b> e:a>", ""},
		{"a:a> a:b>", "", "a"}, {"b:a> b:A> a:a> a:>a", "", "a,b"}, {"a:a> b:a> a:A>", "b:a>", "a"}, {"a:a> a:a> a:a> a:b> b:b> c:a>", "b:b> c:a>", "a"}, {"e:a> a:> e:b> c:> c:a> b:>", "a,b:>", "c,e"}, {"a:a> a:b> a:c> a:a>", "", "a"}, {"a:a> f:a> f:b>", "a:a>", ""},
		{"a:ab> b:a>b c:>ab", "a:ab> b:a>b c:>ab", ""}, {"a:ab> b:ba>", "a:ab> b:ba>", ""}, {"a:a> b:aa> c:aaa>", "a:a> b:aa> c:aaa>", ""}, {"a:a> b:A> c:b>", "a:a> b:A> c:b>", ""}, {"a:ab> a:ba>", "", "a"}, {"a:aa> a:a>", "", "a"},
	} {
		equivocators := strings.FieldsFunc(x.equivocators, func(c rune) bool { return c == ',' })
		for _, threshold := range []int{1, 0, -5, 3, 9} {
			expectCamps(t, x.records, step(threshold), list(x.records), camps(x.camps), equivocators...)
		}
	}
}

// Promises 15.2 and 15.3: what makes an owner an equivocator, and what does not.
func TestEquivocators(t *testing.T) {
	spec, free := step(1), step(1)
	free.Command = nil
	first := says("a", "ab>cd")
	one := camps("a:ab>cd")
	for _, text := range []string{"ab>cD", "ab>Cd", "aB>cd", "Ab>cd", "ab>c", "ab>cde", "a>cd", "abc>cd", "ab>", ">cd", ">", "cd>ab", "ba>cd", "ab>dc", "ab>ce", "abcd>"} {
		l := []api.Attested{first, says("a", text)}
		expectCamps(t, text, spec, l, nil, "a")
		expectCamps(t, text+" of another", spec, []api.Attested{says("b", "ab>cd"), l[1], l[0], l[0]}, camps("b:ab>cd"), "a")
		l[1].Owner = "f"
		expectCamps(t, text+" of an owner who may not", spec, l, one)
		l[1] = changed(says("a", text), func(r *api.Record) { r.Step = "test" })
		expectCamps(t, text+" in another step", spec, l, one)
		l[1] = changed(says("a", text), func(r *api.Record) { r.Command = []string{"make"} })
		expectCamps(t, text+" by another command", spec, l, one)
		expectCamps(t, text+" by any command", free, l, nil, "a")
	}
	expectCamps(t, "all else", spec, []api.Attested{first, others("a", "ab>cd")}, one)
	expectCamps(t, "a command", free, []api.Attested{first, changed(first, func(r *api.Record) { r.Command = nil })}, one)
	expectCamps(t, "an empty list", spec, []api.Attested{says("a", ">"), changed(says("a", ">"), func(r *api.Record) { r.Materials, r.Products = []api.Entry{}, []api.Entry{} })}, camps("a:>"))
	for i := range 6 {
		l := slices.Repeat([]api.Attested{first}, 6)
		l[i] = says("a", "ab>")
		expectCamps(t, fmt.Sprint("only record ", i), spec, l, nil, "a")
	}
}

// Promises 15.2 and 15.3: links that differ in one bit of a digest make an owner an equivocator, and two owners two camps.
func TestCampsOfDigests(t *testing.T) {
	everyBit(func(name string, k api.Link) {
		other := changed(says("a", ""), func(r *api.Record) { r.Materials, r.Products = k.Materials, k.Products })
		alone := api.Agreed{Link: k, Owners: []string{"a"}}
		expectCamps(t, name, step(1), []api.Attested{says("b", "abc>de"), other}, []api.Agreed{alone, camps("b:abc>de")[0]})
		expectCamps(t, name+" by the same owner", step(1), []api.Attested{says("a", "abc>de"), other}, nil, "a")
	})
}

// Promise 15.3: names of owners and links of all sorts.
func TestCampsOfTexts(t *testing.T) {
	texts := oddTexts()
	ascending := slices.Sorted(slices.Values(texts))
	for _, name := range texts {
		spec := api.StepSpec{Name: name, Threshold: 1, By: texts}
		var l []api.Attested
		var want []api.Agreed
		for _, owner := range texts {
			l = append(l, api.Attested{Owner: owner, Record: api.Record{Step: name}})
		}
		together := api.Agreed{Link: api.Link{Step: name}, Owners: ascending}
		expectCamps(t, fmt.Sprintf("step %.70q", name), spec, l, []api.Agreed{together})
		expectDecision(t, fmt.Sprintf("step %.70q", name), spec, l, together, api.OK)
		for i, owner := range ascending {
			s := []api.Entry{{Path: ascending[len(ascending)-1-i]}}
			want = append(want, api.Agreed{Link: api.Link{Step: name, Products: s}, Owners: []string{owner}})
			l[slices.Index(texts, owner)].Record.Products = s
		}
		expectCamps(t, fmt.Sprintf("step %.70q, all different", name), spec, l, want)
	}
}

// Promises 15.3 and 15.4: three owners, each with any of four links, in several orders.
func TestFewOwners(t *testing.T) {
	all := subsets("ab>", "a>b", "A>b", ">")
	for _, a := range all {
		for _, b := range all {
			for _, c := range all {
				var l []api.Attested
				for i, texts := range []string{a, b, c} {
					for text := range strings.FieldsSeq(texts) {
						l = append(l, says("abc"[i:i+1], text))
					}
				}
				for threshold := range 4 {
					expectModel(t, fmt.Sprintf("%q %q %q", a, b, c), step(threshold), l)
					l = append(l[len(l)/2:], l[:len(l)/2]...)
					slices.Reverse(l)
				}
			}
		}
	}
}

// Promises 15.3 and 15.4: five owners, each with one of five links or none.
func TestAllPartitions(t *testing.T) {
	links := []string{"", "a>b", "b>a", "ab>", ">ab", ">"}
	n := len(links)
	for number := range n * n * n * n * n {
		var l []api.Attested
		for _, owner := range step(1).By {
			if text := links[number%n]; text != "" {
				l = append(l, says(owner, text))
			}
			number /= n
		}
		slices.Reverse(l)
		expectModel(t, fmt.Sprint(number), step(1+len(l)%3), l)
	}
}

// Promise 15.4: the examples of the chapter.
func TestExamples(t *testing.T) {
	spec := step(2)
	spec.By = []string{"a", "b", "c"}
	expectDecision(t, "two of three", spec, list("a:a>b b:a>c c:a>b"), camps("a,c:a>b")[0], api.OK)
	expectDecision(t, "two camps of two", step(2), list("a:a>b b:a>c c:a>b d:a>c"), api.Agreed{}, api.ErrDispute)
	expectCamps(t, "two links", step(1), list("a:a>b a:a>c"), nil, "a")
	expectDecision(t, "two links", step(1), list("a:a>b a:a>c"), api.Agreed{}, api.ErrThreshold)
}

// Promise 15.4: camps of all sizes and thresholds of all sorts.
func TestDecide(t *testing.T) {
	spec := api.StepSpec{Name: "build", By: numbered("o", 12)}
	thresholds := []int{-1 << 63, -1 << 31, -2, -1, 0, 1, 2, 3, 4, 5, 6, 12, 13, 1 << 31, 1<<63 - 1}
	for first := range 5 {
		for second := range 5 {
			for third := range 5 {
				var l []api.Attested
				owners := spec.By
				for i, size := range []int{first, second, third} {
					for _, owner := range owners[:size] {
						l = append(l, says(owner, "a>"+"bcd"[i:i+1]))
					}
					owners = owners[size:]
				}
				slices.Reverse(l)
				for _, threshold := range thresholds {
					spec.Threshold = threshold
					enough := count(first >= threshold) + count(second >= threshold) + count(third >= threshold)
					name := fmt.Sprintf("%d, %d and %d of %d", first, second, third, threshold)
					largest, equivocators := modelCamps(spec, l)
					switch {
					case threshold < 1 || enough == 0:
						expectDecision(t, name, spec, l, api.Agreed{}, api.ErrThreshold)
					case enough > 1:
						expectDecision(t, name, spec, l, api.Agreed{}, api.ErrDispute)
					default:
						expectDecision(t, name, spec, l, largest[0], api.OK)
					}
					expectCamps(t, name, spec, l, largest, equivocators...)
				}
			}
		}
	}
}

// Promise 15.4: equivocators beside a decision, and beside none.
func TestDecideWithEquivocators(t *testing.T) {
	for _, x := range []struct {
		threshold             int
		records, camp, others string
		e                     api.Errno
	}{
		{1, "a:a>b", "a:a>b", "", api.OK}, {1, "b:a>b b:a>c a:a>b", "a:a>b", "b", api.OK}, {1, "e:a> e:b> c:a> b:c> b:d> b:e>", "c:a>", "b,e", api.OK}, {2, "a:a> b:a> c:a> c:b> d:b>", "a,b:a>", "c", api.OK}, {2, "a:a> b:a> b:b>", "", "", api.ErrThreshold},
		{1, "a:a> b:b> c:c> c:a>", "", "", api.ErrDispute}, {2, "a:a> b:a> c:b> d:b> d:a>", "a,b:a>", "d", api.OK}, {3, "a:a> b:a> c:a> c:> c:a>", "", "", api.ErrThreshold}, {1, "f:a> a:a> f:b>", "a:a>", "", api.OK}, {1, "f:b> a:a>", "a:a>", "", api.OK},
	} {
		var want api.Agreed
		if x.e == api.OK {
			want = camps(x.camp)[0]
			want.Equivocators = strings.FieldsFunc(x.others, func(c rune) bool { return c == ',' })
		}
		expectDecision(t, fmt.Sprintf("%s for %d", x.records, x.threshold), step(x.threshold), list(x.records), want, x.e)
	}
	expectDecision(t, "the zero step", api.StepSpec{}, nil, api.Agreed{}, api.ErrThreshold)
	expectDecision(t, "the zero step, once", api.StepSpec{Threshold: 1}, make([]api.Attested, 1), api.Agreed{}, api.ErrThreshold)
	expectDecision(t, "empty names", api.StepSpec{Threshold: 1, By: []string{"", ""}}, make([]api.Attested, 2), api.Agreed{Owners: []string{""}}, api.OK)
	expectDecision(t, "an owner twice", api.StepSpec{Threshold: 2, By: []string{"", ""}}, make([]api.Attested, 2), api.Agreed{}, api.ErrThreshold)
}

// Promise 15.5: every order of records, and repetitions of them.
func TestOrderAndRepetitions(t *testing.T) {
	random := rand.New(rand.NewSource(15))
	for _, records := range []string{"a:a>b b:a>b c:a>b d:>", "a:a> b:a> c:b> d:b> e:c>", "a:a> a:b> b:a> c:a> d:b>", "a:> b:a> c:b> d:c> e:d> f:>", "e:a> e:b> d:a> d:b> c:a> c:a>", "a:ab> a:ab> b:ba> c:ab> c:ab> d:a>b"} {
		l := list(records)
		for threshold := range 4 {
			spec := step(threshold)
			want, equivocators := modelCamps(spec, l)
			decided, errno := modelDecide(spec, l)
			permutations(l, func(l []api.Attested) {
				expectCamps(t, records, spec, l, want, equivocators...)
				expectDecision(t, records, spec, l, decided, errno)
				for range 6 {
					l = slices.Insert(l, random.Intn(len(l)+1), l[random.Intn(len(l))])
				}
				expectCamps(t, records+" and some again", spec, l, want, equivocators...)
				expectDecision(t, records+" and some again", spec, l, decided, errno)
			})
		}
	}
}

// Promise 15.5: four owners, who are honest unless they attest what they should not.
func TestHonestOwners(t *testing.T) {
	all := subsets("a>b", "b>a", "ab>")
	honest := camps("a:a>b")[0].Link
	for number := range len(all) * len(all) * len(all) * len(all) {
		var l []api.Attested
		liars, attested := 0, 0
		owners := []string{"a", "b", "c", "d"}
		for i, owner := range owners {
			texts := strings.Fields(all[number>>(3*i)%len(all)])
			for _, text := range texts {
				l = append(l, says(owner, text))
			}
			switch {
			case slices.Equal(texts, []string{"a>b"}):
				attested++
			case len(texts) > 0:
				liars++
			}
		}
		// Strangers say what they like.
		l = append(l, list("x:b>a y:b>a z:b>a w:ab> v:ab> u:ab>")...)
		for threshold := 1; threshold <= 4; threshold++ {
			if liars >= threshold {
				continue
			}
			spec := step(threshold)
			spec.By = owners
			got, e := agreement.Decide(spec, l)
			decided := e == api.OK && agreement.Same(got.Link, honest) && len(got.Owners) == attested
			if !decided && e != api.ErrThreshold || decided != (attested >= threshold) {
				t.Errorf("%d honest owners and %d others, of %d: %v %d", attested, liars, threshold, got, e)
			}
		}
	}
}

// Promises 15.2 to 15.5: random steps and records, of which few things differ.
func TestRandomRecords(t *testing.T) {
	random := rand.New(rand.NewSource(150))
	pick := func(l ...string) string { return l[random.Intn(len(l))] }
	outcomes := map[api.Errno]int{}
	for range 20000 {
		spec := api.StepSpec{Name: pick("build", "build", "build", "build", "test"), Threshold: (random.Intn(12) + 3) / 4}
		for range random.Intn(12) {
			spec.By = append(spec.By, pick("a", "b", "c", "d", "e", "f", "g"))
		}
		if random.Intn(2) == 0 {
			spec.Command = strings.Fields(pick("make all", "make all", "make all", "make"))
		}
		var l []api.Attested
		for range random.Intn(12) {
			x := says(pick("a", "b", "c", "d", "e", "f", "g"), pick("a>b", "a>b", "a>b", "a>B", "A>b", "ab>", ">ab", "b>a"))
			if random.Intn(12) == 0 {
				x.Record.Step = pick("build", "test")
			}
			if random.Intn(12) == 0 {
				x.Record.Command = strings.Fields(pick("", "make", "make all", "all make"))
			}
			l = append(l, x)
		}
		expectModel(t, fmt.Sprint(spec, l), spec, l)
		_, e := agreement.Decide(spec, l)
		outcomes[e]++
	}
	if outcomes[api.OK] < 1000 || outcomes[api.ErrThreshold] < 1000 || outcomes[api.ErrDispute] < 1000 {
		t.Errorf("too few of a kind: %v", outcomes)
	}
}

// Promises 15.2 to 15.5: more owners and records than a layout and an archive have.
func TestManyOwners(t *testing.T) {
	const n = 6000
	spec := api.StepSpec{Name: "build", Threshold: n - 1, By: numbered("o", n)}
	slices.Reverse(spec.By)
	var same, different []api.Attested
	for i, owner := range spec.By {
		same = append(same, says(owner, "a>b"), says(owner, "a>b"))
		different = append(different, api.Attested{Owner: owner, Record: api.Record{Step: "build", Products: []api.Entry{{Path: fmt.Sprint(i)}}}})
	}
	same[0].Record.Products = files("c")
	decided, e := agreement.Decide(spec, same)
	if e != api.OK || !slices.Equal(decided.Owners, numbered("o", n-1)) || !slices.Equal(decided.Equivocators, spec.By[:1]) {
		t.Errorf("all but one: %d, %d owners, but for %q", e, len(decided.Owners), decided.Equivocators)
	}
	all, equivocators := agreement.Camps(spec, different)
	if len(all) != n || len(equivocators) != 0 || len(agreement.Eligible(spec, different)) != n {
		t.Fatalf("all different: %d camps and %d equivocators", len(all), len(equivocators))
	}
	for i, c := range all {
		if !slices.Equal(c.Owners, spec.By[n-1-i:n-i]) || c.Link.Products[0].Path != fmt.Sprint(n-1-i) {
			t.Fatalf("camp %d: %v", i, c)
		}
	}
	if _, e := agreement.Decide(spec, different); e != api.ErrThreshold {
		t.Errorf("all different: %d", e)
	}
	spec.Threshold = 1
	if got, e := agreement.Decide(spec, different); e != api.ErrDispute || !equalAgreed(got, api.Agreed{}) {
		t.Errorf("all different, one suffices: %d %v", e, got)
	}
}

// Promise 15.3: owners of several large camps, in any order.
func TestLargeCamps(t *testing.T) {
	random := rand.New(rand.NewSource(153))
	spec := api.StepSpec{Name: "build", Threshold: 1, By: numbered("o", 300)}
	for n := 1; n <= 12; n++ {
		var l []api.Attested
		for _, owner := range spec.By {
			l = append(l, says(owner, "abcdefghijkl"[:random.Intn(n)]+">b"))
		}
		random.Shuffle(len(l), func(i, j int) { l[i], l[j] = l[j], l[i] })
		expectModel(t, fmt.Sprint(n, " links"), spec, append(l, l[:n*n]...))
	}
}

// full returns records with something in all their fields, two of which are equal.
func full() []api.Attested {
	l := []api.Attested{says("c", "ab>cd"), others("a", "ab>cd"), others("b", "a>b"), others("a", "ab>cd"), says("d", "a>"), others("d", ">b"), says("f", "ab>cd")}
	return l
}

// Rule R4: neither the arguments nor the memory after them are modified.
func TestArgumentsStay(t *testing.T) {
	entry, variable, rule := files("m")[0], api.Variable{Name: "mark"}, api.Rule{Pattern: "mark"}
	spec := step(2)
	spec.By, spec.Command = marked([]string{"e", "d", "b", "c", "b", "a"}, "mark"), marked(spec.Command, "mark")
	spec.Materials, spec.Products = marked([]api.Rule{rule}, rule), marked([]api.Rule{rule}, rule)
	l := marked(full(), says("mark", ">"))
	for i := range l {
		r := &l[i].Record
		r.Command, r.Env, r.Materials, r.Products = marked(r.Command, "mark"), marked(r.Env, variable), marked(r.Materials, entry), marked(r.Products, entry)
	}
	for range 2 {
		agreement.Eligible(spec, l)
		agreement.Camps(spec, l)
		agreement.Decide(spec, l)
		agreement.Same(linkOfRecord(l[0].Record), linkOfRecord(l[1].Record))
	}
	bad := !slices.EqualFunc(l, full(), equalAttested) || !slices.Equal(spec.By, []string{"e", "d", "b", "c", "b", "a"}) || !slices.Equal(spec.Command, []string{"make", "all"})
	bad = bad || unmarked(spec.By, "mark") || unmarked(spec.Command, "mark") || unmarked(spec.Materials, rule) || unmarked(spec.Products, rule) || spec.Materials[0] != rule || spec.Products[0] != rule
	for _, x := range l[len(l):cap(l)] {
		bad = bad || !equalAttested(x, says("mark", ">"))
	}
	for _, x := range l {
		r := x.Record
		bad = bad || unmarked(r.Command, "mark") || unmarked(r.Env, variable) || unmarked(r.Materials, entry) || unmarked(r.Products, entry)
	}
	if bad {
		t.Errorf("an argument was modified: %v %v", spec, l)
	}
}

// The rule of the language that results are new memory: who writes to a part of one, or appends to it, changes neither an argument nor another part.
func TestResultsAreNew(t *testing.T) {
	spec, l := step(2), full()
	eligible := agreement.Eligible(spec, l)
	for i, x := range eligible {
		r := x.Record
		clear(r.Command[:cap(r.Command)])
		clear(r.Env[:cap(r.Env)])
		clear(r.Materials[:cap(r.Materials)])
		clear(r.Products[:cap(r.Products)])
		if want := full()[i+1]; i < len(eligible)-1 && !equalAttested(eligible[i+1], want) {
			t.Errorf("record %d changed: %v", i+1, eligible[i+1])
		}
	}
	clear(eligible[:cap(eligible)])
	one := step(1)
	all, equivocators := agreement.Camps(one, l)
	for i, c := range all {
		clear(c.Link.Materials[:cap(c.Link.Materials)])
		clear(c.Link.Products[:cap(c.Link.Products)])
		clear(c.Owners[:cap(c.Owners)])
		if want := camps("a,c:ab>cd b:a>b"); i == 0 && !equalAgreed(all[1], want[1]) {
			t.Errorf("the second camp changed: %v", all[1])
		}
	}
	clear(equivocators[:cap(equivocators)])
	decided, _ := agreement.Decide(spec, l)
	clear(decided.Link.Materials)
	clear(decided.Link.Products)
	clear(decided.Owners[:cap(decided.Owners)])
	want := camps("a,c:ab>cd")[0]
	if !slices.Equal(decided.Equivocators, []string{"d"}) || !slices.EqualFunc(l, full(), equalAttested) {
		t.Errorf("%v, of %v", decided, l)
	}
	clear(decided.Equivocators)
	want.Equivocators = []string{"d"}
	expectDecision(t, "again", spec, l, want, api.OK)
	expectCamps(t, "again", spec, l, camps("a,c:ab>cd b:a>b"), "d")
}

// Rule R3: calls at the same time have the same results.
func TestCallsAreIndependent(t *testing.T) {
	l := full()
	var group sync.WaitGroup
	for threshold := range 8 {
		group.Go(func() {
			for range 50 {
				expectModel(t, "at the same time", step(threshold%4), l)
			}
		})
	}
	group.Wait()
}
