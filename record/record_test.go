package record_test

import (
	"fmt"
	"slices"
	"strings"
	"sync"
	"testing"

	"admission/api"
	"admission/record"
)

// expectScope checks Scope, and that it is what the model says.
func expectScope(t *testing.T, s string, want bool) {
	t.Helper()
	if got := record.Scope(s); got != want || scopeForm.MatchString(s) != want {
		t.Errorf("Scope of %.100q: %t, want %t and not %t", s, got, want, !want)
	}
}

// Promise 12.1: scopes and others.
func TestScope(t *testing.T) {
	name := strings.Repeat("n", 64)
	for _, s := range []string{"", "a", "0", "build", "a/b", "a/b/c", "a/b/c/d", "a/a/a/a", "0.1/x-y/z_/9..", name, name + "/" + name + "/" + name + "/" + name} {
		expectScope(t, s, true)
	}
	for _, s := range []string{
		"/", "//", "///", "////", "/////", "/a", "a/", "//a", "a//b", "a//", "/a/", "a/b/c/d/", "/a/b/c/d", "a/b//c", "a/b/c/d/e", "a/b/c/d/e/f", "a/b/c/d//", "a/b/c/d/E",
		" ", "a b", "a /b", "a/ b", "A", "a/B", "A/b", "-a", ".a", "_a", "a/-b", "a/.", "a/..", ".", "..", "~", "a\n", "\na", "a\x00", "a/\x00", "é", "a/é", "a\\b", "a/b\n", "a/*",
		name + "n", name + "n/a", "a/" + name + "n", "a/b/c/" + name + "n", "a/b/c/d/" + name,
	} {
		expectScope(t, s, false)
	}
}

// Promise 12.1: all short texts.
func TestScopeOfShortTexts(t *testing.T) {
	scopes := 0
	check := func(s string) {
		want := scopeForm.MatchString(s)
		if want {
			scopes++
		}
		expectScope(t, s, want)
	}
	every("a/", 12, check)
	every("0/-A", 7, check)
	if scopes < 500 {
		t.Errorf("only %d scopes", scopes)
	}
}

// Promise 12.1: scopes of so many names, of so many bytes each, in which one byte is any byte.
func TestScopeNames(t *testing.T) {
	for n := range 12 {
		list := numbered("n", n)
		expectScope(t, strings.Join(list, "/"), n <= 4)
		for i := range list {
			for _, size := range []int{1, 2, 63, 64, 65, 66, 128, 300, 100000} {
				l := slices.Clone(list)
				l[i] = strings.Repeat("x", size)
				expectScope(t, strings.Join(l, "/"), n <= 4 && size <= 64)
			}
			for c := range 256 {
				l := slices.Clone(list)
				l[i] = string([]byte{byte(c)})
				alone := strings.ContainsAny(l[i], "abcdefghijklmnopqrstuvwxyz0123456789")
				expectScope(t, strings.Join(l, "/"), n <= 4 && alone)
				l[i] = "a" + l[i] + "b"
				inside := alone || strings.ContainsAny(l[i], "._-")
				expectScope(t, strings.Join(l, "/"), n <= 4 && inside || n < 4 && c == '/')
			}
		}
	}
	for _, s := range []string{strings.Repeat("/", 1<<20), strings.Repeat("a/", 1<<20), strings.Repeat("a", 1<<20), "a/" + strings.Repeat("/a", 1<<20)} {
		expectScope(t, s, false)
	}
}

// oddTexts returns texts of all sorts.
func oddTexts() []string {
	return []string{"", "a", "b", "build", "a/b", "a/b/c", "a/b/c/d", "a/b/c/d/e", "/", "/a", "a/", "//", "A", " ", "\x00", "\xff", "é", "~", ".", "..", strings.Repeat("n", 64), strings.Repeat("n", 65), strings.Repeat("/", 1000)}
}

// Promise 12.1: Inner of all sorts of arguments, which it does not check.
func TestInner(t *testing.T) {
	for _, step := range oddTexts() {
		if got := record.Inner("", step); got != step {
			t.Errorf("in no scope: %q, want %q", got, step)
		}
		for _, scope := range oddTexts()[1:] {
			if got, want := record.Inner(scope, step), scope+"/"+step; got != want {
				t.Errorf("%q in %q: %q, want %q", step, scope, got, want)
			}
		}
	}
}

// Promise 12.1: what is inside a scope is one itself as long as it is not too deep.
func TestInnerOfScopes(t *testing.T) {
	scope := ""
	for depth := 1; depth < 10; depth++ {
		scope = record.Inner(scope, fmt.Sprint("step", depth))
		if want := strings.Join([]string{"step1", "step2", "step3", "step4", "step5", "step6", "step7", "step8", "step9"}[:depth], "/"); scope != want {
			t.Errorf("%q, want %q", scope, want)
		}
		expectScope(t, scope, depth <= 4)
	}
}

// expectValid checks Valid, and that it is what the model says.
func expectValid(t *testing.T, name string, r api.Record, want bool) {
	t.Helper()
	if got := record.Valid(r); got != want || modelValid(r) != want {
		t.Errorf("%s: %t, want %t and not %t", name, got, want, !want)
	}
}

// validRecords returns records of all sorts.
func validRecords() []named {
	r, word := sample(), strings.Repeat("\xff", 200)
	return append(variants(),
		named{"the sample", r},
		named{"the smallest one", smallest()},
		named{"the largest one", many(16, 16, 64, 64)},
		named{"the widest one", widest()},
		named{"empty slices", changed(smallest(), func(r *api.Record) {
			r.Command, r.Env, r.Materials, r.Products = []string{}, []api.Variable{}, []api.Entry{}, []api.Entry{}
		})},
		named{"equal materials and products", changed(r, func(r *api.Record) { r.Products = r.Materials })},
		named{"long words", changed(r, func(r *api.Record) { r.Command, r.Env[0].Value = slices.Repeat([]string{word}, 16), word })},
		named{"words like first words", changed(r, func(r *api.Record) {
			r.Run, r.Scope, r.Step = "record", "command/env/material/product", "command"
			r.Command = []string{"record", "command", "env", "material", "product"}
			r.Env = variables("command=env", "env=material", "material=product", "product=record", "record=command")
			r.Materials, r.Products = files(0, "command", "env", "material", "product", "record"), files(5, "material", "product")
		})},
	)
}

// variants returns records each of which differs from the sample and from the others.
func variants() []named {
	var out []named
	add := func(name string, change func(r *api.Record)) {
		out = append(out, named{name, changed(sample(), change)})
	}
	add("another run", func(r *api.Record) { r.Run = "run-2" })
	add("no scope", func(r *api.Record) { r.Scope = "" })
	add("the outer scope", func(r *api.Record) { r.Scope = "outer" })
	add("a deeper scope", func(r *api.Record) { r.Scope += "/x" })
	add("another step", func(r *api.Record) { r.Step = "test" })
	add("a step for a scope", func(r *api.Record) { r.Scope, r.Step = "build", "outer" })
	add("a step for a run", func(r *api.Record) { r.Run, r.Step = r.Step, r.Run })
	add("at the beginning", func(r *api.Record) { r.At = 0 })
	add("later", func(r *api.Record) { r.At = 70 })
	add("at the end", func(r *api.Record) { r.At = maxNumber })
	add("no command", func(r *api.Record) { r.Command = nil })
	add("one empty word", func(r *api.Record) { r.Command = []string{""} })
	add("two empty words", func(r *api.Record) { r.Command = []string{"", ""} })
	add("a tilde", func(r *api.Record) { r.Command = []string{"~"} })
	add("two words", func(r *api.Record) { r.Command = []string{"a", "b"} })
	add("one word", func(r *api.Record) { r.Command = []string{"a b"} })
	add("two lines", func(r *api.Record) { r.Command = []string{"a\nb"} })
	add("an escape", func(r *api.Record) { r.Command = []string{"a%20b"} })
	add("another order of words", func(r *api.Record) { slices.Reverse(r.Command) })
	add("variables as words", func(r *api.Record) { r.Command, r.Env = append(r.Command, "env", "lang", ""), r.Env[1:] })
	for i := range sample().Command {
		add(fmt.Sprintf("without word %d", i), func(r *api.Record) { r.Command = slices.Delete(r.Command, i, i+1) })
		add(fmt.Sprintf("word %d twice", i), func(r *api.Record) { r.Command = slices.Insert(r.Command, i, r.Command[i]) })
		add(fmt.Sprintf("another word %d", i), func(r *api.Record) { r.Command[i] += "\x00" })
	}
	add("no variables", func(r *api.Record) { r.Env = nil })
	for i := range sample().Env {
		add(fmt.Sprintf("without variable %d", i), func(r *api.Record) { r.Env = slices.Delete(r.Env, i, i+1) })
		add(fmt.Sprintf("another name %d", i), func(r *api.Record) { r.Env[i].Name += "-" })
		add(fmt.Sprintf("another value %d", i), func(r *api.Record) { r.Env[i].Value += " " })
	}
	addFiles := func(name string, of func(r *api.Record) *[]api.Entry) {
		add("no "+name, func(r *api.Record) { *of(r) = nil })
		for i := range *of(&api.Record{Materials: sample().Materials, Products: sample().Products}) {
			add(fmt.Sprintf("without file %d of %s", i, name), func(r *api.Record) { *of(r) = slices.Delete(*of(r), i, i+1) })
			add(fmt.Sprintf("another path %d of %s", i, name), func(r *api.Record) { (*of(r))[i].Path += "\xff" })
			add(fmt.Sprintf("another first byte of file %d of %s", i, name), func(r *api.Record) { (*of(r))[i].Digest[0]++ })
			add(fmt.Sprintf("another last byte of file %d of %s", i, name), func(r *api.Record) { (*of(r))[i].Digest[31]++ })
		}
	}
	addFiles("materials", func(r *api.Record) *[]api.Entry { return &r.Materials })
	addFiles("products", func(r *api.Record) *[]api.Entry { return &r.Products })
	add("exchanged", func(r *api.Record) { r.Materials, r.Products = r.Products, r.Materials })
	add("all consumed", func(r *api.Record) { r.Materials, r.Products = append(r.Materials, r.Products[2]), r.Products[:2] })
	return out
}

// noSnapshots returns lists of entries that are no snapshots.
func noSnapshots() map[string][]api.Entry {
	out := map[string][]api.Entry{
		"descending":               files(1, "b", "a"),
		"descending at the end":    files(1, "a", "b", "d", "c"),
		"a slash before a dot":     files(1, "a/b", "a.b"),
		"bytes are unsigned":       files(1, "\xff", "a"),
		"a path twice":             files(1, "a", "a"),
		"an entry twice":           slices.Repeat(files(1, "a"), 2),
		"a zero Digest":            {{Path: "a"}},
		"a zero Digest at the end": append(files(1, "a", "b"), api.Entry{Path: "c"}),
		"a zero entry":             {{}},
		"one entry too many":       files(1, numbered("f", 65)...),
		"far too many entries":     files(1, numbered("f", 450)...),
	}
	for i, path := range []string{"", "/", "a/", "/a", "a//b", ".", "..", "./a", "a/..", "\x00", "a\x00", strings.Repeat("a", 201), strings.Repeat("a", 30000)} {
		out[fmt.Sprintf("no path %d", i)] = files(1, path)
		out[fmt.Sprintf("no path %d behind a path", i)] = files(1, "\x01", path)
		out[fmt.Sprintf("no path %d before a path", i)] = files(1, path, "~")
	}
	return out
}

// invalidRecords returns records that are not valid, each for one reason.
func invalidRecords() []named {
	out := []named{{"the zero record", api.Record{}}}
	add := func(name string, change func(r *api.Record)) {
		out = append(out, named{name, changed(sample(), change)})
	}
	long := strings.Repeat("x", 201)
	for _, s := range []string{"", "A", "-a", "a b", "a/b", "~", "a\n", "\x00", "é", strings.Repeat("a", 65), long} {
		add(fmt.Sprintf("run %.70q", s), func(r *api.Record) { r.Run = s })
		add(fmt.Sprintf("step %.70q", s), func(r *api.Record) { r.Step = s })
		for i := range sample().Env {
			add(fmt.Sprintf("variable %d %.70q", i, s), func(r *api.Record) { r.Env[i].Name = s })
			add(fmt.Sprintf("variable %.70q alone", s), func(r *api.Record) { r.Env = []api.Variable{{Name: s}} })
		}
	}
	for _, s := range []string{"/", "A", "a/", "/a", "a//b", "a/b/c/d/e", "a/b c", "a/" + strings.Repeat("a", 65)} {
		add(fmt.Sprintf("scope %.70q", s), func(r *api.Record) { r.Scope = s })
	}
	for i := range sample().Command {
		add("a word too long", func(r *api.Record) { r.Command[i] = long })
	}
	add("a command too long", func(r *api.Record) { r.Command = make([]string, 17) })
	for i := range sample().Env {
		add("a value too long", func(r *api.Record) { r.Env[i].Value = long })
		add("a variable twice", func(r *api.Record) { r.Env = slices.Insert(r.Env, i, r.Env[i]) })
		add("two variables with one name", func(r *api.Record) {
			r.Env = slices.Insert(r.Env, i, api.Variable{Name: r.Env[i].Name, Value: "v"})
		})
	}
	add("variables in another order", func(r *api.Record) { slices.Reverse(r.Env) })
	add("the last variables in another order", func(r *api.Record) { slices.Reverse(r.Env[1:]) })
	add("variables ordered by their values", func(r *api.Record) { r.Env = variables("b=1", "a=2") })
	add("too many variables", func(r *api.Record) { r.Env = variables(numbered("v", 17)...) })
	for name, s := range noSnapshots() {
		add("materials: "+name, func(r *api.Record) { r.Materials = s })
		add("products: "+name, func(r *api.Record) { r.Products = s })
		add("materials and products: "+name, func(r *api.Record) { r.Materials, r.Products = s, s })
	}
	add("before the beginning", func(r *api.Record) { r.At = -1 })
	add("too late", func(r *api.Record) { r.At = maxNumber + 1 })
	return append(out, named{"too many of all", many(100, 100, 100, 100)})
}

// Promise 12.2.
func TestValid(t *testing.T) {
	for _, x := range validRecords() {
		expectValid(t, x.name, x.r, true)
	}
	for _, x := range invalidRecords() {
		expectValid(t, x.name, x.r, false)
	}
}

// Promise 12.2: all sorts of times.
func TestValidTimes(t *testing.T) {
	for _, n := range numbers() {
		expectValid(t, fmt.Sprintf("at %d", n), changed(sample(), func(r *api.Record) { r.At = n }), 0 <= n && n <= 1<<40)
	}
}

// Promise 12.2: lists of every length around their limits.
func TestValidLengths(t *testing.T) {
	for n := range 140 {
		expectValid(t, fmt.Sprintf("%d words", n), many(n, 1, 1, 1), n <= 16)
		expectValid(t, fmt.Sprintf("%d empty words", n), changed(sample(), func(r *api.Record) { r.Command = make([]string, n) }), n <= 16)
		expectValid(t, fmt.Sprintf("%d variables", n), many(1, n, 1, 1), n <= 16)
		expectValid(t, fmt.Sprintf("%d materials", n), many(1, 1, n, 1), n <= 64)
		expectValid(t, fmt.Sprintf("%d products", n), many(1, 1, 1, n), n <= 64)
		expectValid(t, fmt.Sprintf("%d of all", n), many(n, n, n, n), n <= 16)
	}
}

// Promise 12.2: words, values and paths of every length around their limit.
func TestValidSizes(t *testing.T) {
	for _, n := range []int{0, 1, 2, 63, 64, 65, 100, 198, 199, 200, 201, 202, 255, 256, 400, 1000, 32768, 32769, 1 << 20} {
		for _, c := range []string{"x", "\x00", "\xff", " ", "~"} {
			s := strings.Repeat(c, n)
			name := fmt.Sprintf("%d times %q", n, c)
			for i := range sample().Command {
				expectValid(t, "word of "+name, changed(sample(), func(r *api.Record) { r.Command[i] = s }), n <= 200)
			}
			for i := range sample().Env {
				expectValid(t, "value of "+name, changed(sample(), func(r *api.Record) { r.Env[i].Value = s }), n <= 200)
			}
			isPath := 1 <= n && n <= 200 && c != "\x00"
			expectValid(t, "material of "+name, changed(sample(), func(r *api.Record) { r.Materials = files(1, s) }), isPath)
			expectValid(t, "product of "+name, changed(sample(), func(r *api.Record) { r.Products = files(1, s) }), isPath)
		}
	}
	// The limit is one of bytes.
	expectValid(t, "201 bytes, 67 letters", changed(sample(), func(r *api.Record) { r.Command[0] = strings.Repeat("€", 67) }), false)
	expectValid(t, "198 bytes, 66 letters", changed(sample(), func(r *api.Record) { r.Command[0] = strings.Repeat("€", 66) }), true)
}

// Promise 12.2: words and values may have any bytes.
func TestValidBytes(t *testing.T) {
	for c := range 256 {
		s := string([]byte{byte(c)})
		for _, w := range []string{s, s + s, "a" + s, s + "a", "a" + s + "b", "/" + s, s + "/"} {
			expectValid(t, fmt.Sprintf("word %q", w), changed(sample(), func(r *api.Record) { r.Command[1] = w }), true)
			expectValid(t, fmt.Sprintf("value %q", w), changed(sample(), func(r *api.Record) { r.Env[1].Value = w }), true)
		}
	}
	for _, w := range []string{".", "..", "/", "//", "a//b", "../..", "", "**", "\\"} {
		expectValid(t, fmt.Sprintf("word %q", w), changed(sample(), func(r *api.Record) { r.Command[1] = w }), true)
		expectValid(t, fmt.Sprintf("value %q", w), changed(sample(), func(r *api.Record) { r.Env[1].Value = w }), true)
	}
}

// Promise 12.2: names, scopes and others, at each place where one of them belongs.
func TestValidNames(t *testing.T) {
	words := append(oddTexts(), "a-b", "a_b", "a.b", "a-", "a_", "a.", "-a", "_a", ".a", "a b", "a ", " a", "aB", "a\n")
	for c := range 256 {
		words = append(words, string([]byte{byte(c)}), "n"+string([]byte{byte(c)}), "n"+string([]byte{byte(c)})+"n")
	}
	for _, w := range words {
		isName, isScope := nameForm.MatchString(w), scopeForm.MatchString(w)
		name := fmt.Sprintf("%.70q", w)
		expectValid(t, "run "+name, changed(sample(), func(r *api.Record) { r.Run = w }), isName)
		expectValid(t, "step "+name, changed(sample(), func(r *api.Record) { r.Step = w }), isName)
		expectValid(t, "variable "+name, changed(sample(), func(r *api.Record) { r.Env = []api.Variable{{Name: w, Value: w}} }), isName)
		expectValid(t, "second variable "+name, changed(sample(), func(r *api.Record) {
			r.Env = []api.Variable{{Name: "k"}, {Name: w}}
			slices.SortFunc(r.Env, func(x, y api.Variable) int { return strings.Compare(x.Name, y.Name) })
		}), isName && w != "k")
		expectValid(t, "scope "+name, changed(sample(), func(r *api.Record) { r.Scope = w }), isScope)
		expectValid(t, "inner scope "+name, changed(sample(), func(r *api.Record) { r.Scope = "x/" + w }), w != "" && strings.Count(w, "/") < 3 && isScope)
	}
}

// Promise 12.2: each list in every order, and with elements that are there twice.
func TestValidOrders(t *testing.T) {
	r := sample()
	r.Env = variables("0=z", "0-=y", "a=x", "a.b=w", "b=v", "ba=u")
	r.Materials = files(1, "A", "a", "a.b", "a/b", "a0", "\xff")
	r.Products = files(9, " ", "-", "src/a", "src/a/b", "src/b", "~")
	expectValid(t, "in order", r, true)
	right := 0
	check := func(name string, x api.Record) {
		want := equal(x, r)
		if want {
			right++
		}
		expectValid(t, name, x, want)
	}
	permutations(r.Env, func(l []api.Variable) { check("variables", changed(r, func(r *api.Record) { r.Env = l })) })
	permutations(r.Materials, func(l []api.Entry) { check("materials", changed(r, func(r *api.Record) { r.Materials = l })) })
	permutations(r.Products, func(l []api.Entry) { check("products", changed(r, func(r *api.Record) { r.Products = l })) })
	for i := range 6 {
		for j := range 6 {
			check("a name twice", changed(r, func(r *api.Record) { r.Env[i].Name = r.Env[j].Name }))
			check("a material twice", changed(r, func(r *api.Record) { r.Materials[i].Path = r.Materials[j].Path }))
			check("a product twice", changed(r, func(r *api.Record) { r.Products[i].Path = r.Products[j].Path }))
		}
	}
	if right != 3+3*6 {
		t.Errorf("%d are right, want 21", right)
	}
}

// Promise 12.2: Materials and Products are valid apart from each other.
func TestValidSides(t *testing.T) {
	r := sample()
	expectValid(t, "no files", changed(r, func(r *api.Record) { r.Materials, r.Products = nil, nil }), true)
	expectValid(t, "full sides", many(0, 0, 64, 64), true)
	for bit := range 256 {
		var d api.Digest
		d[bit/8] = 1 << (bit % 8)
		expectValid(t, "one bit", changed(r, func(r *api.Record) { r.Materials[1].Digest, r.Products[1].Digest = d, d }), true)
	}
}

// Promise 12.2: commands apart from records, of so many words, one of which has so many bytes.
func TestCommand(t *testing.T) {
	for n := range 20 {
		if got := record.Command(make([]string, n)); got != (n <= 16) {
			t.Errorf("%d words: %t", n, got)
		}
		for i := range n {
			for _, size := range []int{1, 199, 200, 201, 1000} {
				words := make([]string, n)
				words[i] = strings.Repeat("\xff", size)
				if got, want := record.Command(words), n <= 16 && size <= 200; got != want {
					t.Errorf("word %d of %d has %d bytes: %t", i, n, size, got)
				}
			}
		}
	}
}

// expectLink checks that Link returns the parts of r.
func expectLink(t *testing.T, name string, r api.Record) api.Link {
	t.Helper()
	l := record.Link(r)
	if l.Step != r.Step || !slices.Equal(l.Materials, r.Materials) || !slices.Equal(l.Products, r.Products) {
		t.Errorf("%s: %.200q", name, fmt.Sprint(l))
	}
	return l
}

// expectChanges checks Changes, and that it is what the model says.
func expectChanges(t *testing.T, name string, l api.Link, want []api.Change, wantErrno api.Errno) {
	t.Helper()
	modelWant, modelErrno := modelChanges(l)
	if got, e := record.Changes(l); e != wantErrno || e != modelErrno || !slices.Equal(got, want) || !slices.Equal(got, modelWant) {
		t.Errorf("%s: %d %.200q, want %d %.200q", name, e, fmt.Sprint(got), wantErrno, fmt.Sprint(want))
	}
}

// Promise 12.4: the links of records of all sorts, valid or not.
func TestLink(t *testing.T) {
	for _, x := range append(validRecords(), invalidRecords()...) {
		want, errno := modelChanges(api.Link{Materials: x.r.Materials, Products: x.r.Products})
		expectChanges(t, x.name, expectLink(t, x.name, x.r), want, errno)
	}
}

// Promise 12.4: what is created, deleted and modified, and what stays.
func TestChanges(t *testing.T) {
	a, b, none := some(1), some(2), api.Digest{}
	tests := []struct {
		name                string
		materials, products []api.Entry
		want                []api.Change
	}{
		{"nothing", nil, nil, nil},
		{"equal", files(1, "x", "y"), files(1, "x", "y"), nil},
		{"created", nil, files(1, "x"), []api.Change{{Path: "x", Old: none, New: a}}},
		{"deleted", files(1, "x"), nil, []api.Change{{Path: "x", Old: a, New: none}}},
		{"modified", files(1, "x"), files(2, "x"), []api.Change{{Path: "x", Old: a, New: b}}},
		{"renamed", files(1, "y"), files(1, "x"), []api.Change{{Path: "x", Old: none, New: a}, {Path: "y", Old: a, New: none}}},
		{"the sample", sample().Materials, sample().Products, []api.Change{{Path: "Makefile", Old: some(1)}, {Path: "out/a", New: some(3)}, {Path: "src/a.c", Old: some(2)}, {Path: "src/b.c", Old: some(3), New: some(4)}, {Path: "~ %", New: some(5)}}},
	}
	for _, x := range tests {
		expectChanges(t, x.name, api.Link{Step: "s", Materials: x.materials, Products: x.products}, x.want, api.OK)
		// The Step does not matter.
		expectChanges(t, x.name, api.Link{Step: "No Name", Materials: x.materials, Products: x.products}, x.want, api.OK)
		expectChanges(t, x.name, api.Link{Materials: x.materials, Products: x.products}, x.want, api.OK)
	}
}

// sides returns every snapshot of three paths and two Digests.
func sides() [][]api.Entry {
	all := [][]api.Entry{nil}
	for _, path := range []string{"a", "a.b", "a/b"} {
		for _, s := range slices.Clone(all) {
			for n := range 2 {
				all = append(all, append(slices.Clone(s), files(n, path)...))
			}
		}
	}
	return all
}

// Promise 12.4: every pair of small snapshots, and full ones.
func TestChangesOfAllSides(t *testing.T) {
	for _, a := range sides() {
		for _, b := range sides() {
			l := api.Link{Step: "s", Materials: a, Products: b}
			want, _ := modelChanges(l)
			expectChanges(t, fmt.Sprint(l), l, want, api.OK)
		}
	}
	full := many(0, 0, 64, 64)
	want, _ := modelChanges(record.Link(full))
	if len(want) != 128 {
		t.Fatalf("%d changes", len(want))
	}
	expectChanges(t, "full", record.Link(full), want, api.OK)
}

// Promise 12.4: a side that is not valid.
func TestChangesOfInvalidLinks(t *testing.T) {
	for name, s := range noSnapshots() {
		for _, other := range [][]api.Entry{nil, files(1, "a"), many(0, 0, 64, 0).Materials, s} {
			expectChanges(t, "materials: "+name, api.Link{Step: "s", Materials: s, Products: other}, nil, api.ErrInvalid)
			expectChanges(t, "products: "+name, api.Link{Step: "s", Materials: other, Products: s}, nil, api.ErrInvalid)
		}
	}
}

// marked returns a copy of l in which the memory behind its length is filled with x.
func marked[T any](l []T, x T) []T {
	out := slices.Grow(slices.Clone(l), 3)
	all := out[:cap(out)]
	for i := len(out); i < cap(out); i++ {
		all[i] = x
	}
	return out
}

// unmarked reports whether the memory behind the length of l is not filled with x any more.
func unmarked[T comparable](l []T, x T) bool {
	return slices.ContainsFunc(l[len(l):cap(l)], func(y T) bool { return y != x })
}

// Rule R4: neither the arguments nor the memory after them are modified.
func TestArgumentsStay(t *testing.T) {
	for _, want := range []api.Record{sample(), smallest(), many(16, 16, 64, 64), many(17, 17, 65, 65)} {
		word, variable, entry := "mark", api.Variable{Name: "mark"}, api.Entry{Path: "mark"}
		r := want
		r.Command, r.Env, r.Materials, r.Products = marked(r.Command, word), marked(r.Env, variable), marked(r.Materials, entry), marked(r.Products, entry)
		text := marked([]byte(modelText(r)), 'm')
		wantText := slices.Clone(text)
		l := api.Link{Step: r.Step, Materials: r.Materials, Products: r.Products}
		for range 2 {
			record.Valid(r)
			record.Encode(r)
			record.Decode(text)
			record.Link(r)
			record.Changes(l)
		}
		bad := !equal(r, want) || !slices.Equal(text, wantText) || unmarked(text, 'm')
		if bad || unmarked(r.Command, word) || unmarked(r.Env, variable) || unmarked(r.Materials, entry) || unmarked(r.Products, entry) {
			t.Errorf("an argument was modified: %.100q", wantText)
		}
	}
}

// The rule of the language that results are new memory: who writes to them does not change an argument or a later result.
func TestResultsAreNew(t *testing.T) {
	r := sample()
	shared := files(1, "a", "b")
	l := record.Link(api.Record{Materials: shared, Products: shared})
	l.Materials[0].Path = "x"
	if shared[0].Path != "a" || l.Products[0].Path != "a" {
		t.Error("the sides of a link share memory")
	}
	part := record.Link(api.Record{Materials: shared[:1], Products: shared[:1]})
	part.Materials = append(part.Materials, files(5, "y")...)
	part.Products = append(part.Products, files(6, "z")...)
	if shared[1].Path != "b" || part.Materials[1].Path != "y" {
		t.Error("a link shares the memory behind its length")
	}
	text := []byte(modelText(r))
	got, _ := record.Decode(text)
	clear(text)
	expect(t, "after clearing the text", got, api.OK, r, api.OK)
	clear(got.Command)
	clear(got.Env)
	clear(got.Materials)
	clear(got.Products)
	b, _ := record.Encode(r)
	clear(b)
	l = record.Link(r)
	clear(l.Materials)
	clear(l.Products)
	changes, _ := record.Changes(record.Link(r))
	clear(changes)
	expect(t, "the argument", r, api.OK, sample(), api.OK)
	expectText(t, "again", r)
	expectLink(t, "again", r)
}

// Rule R3: calls at the same time have the same results.
func TestCallsAreIndependent(t *testing.T) {
	var group sync.WaitGroup
	r := sample()
	want, _ := modelChanges(api.Link{Materials: r.Materials, Products: r.Products})
	for n := range 8 {
		group.Go(func() {
			for range 20 {
				expectText(t, "at the same time", many(n, n, n, n))
				expectText(t, "at the same time", r)
				expectValid(t, "at the same time", r, true)
				expectChanges(t, "at the same time", expectLink(t, "at the same time", r), want, api.OK)
				expectScope(t, strings.Repeat("a/", n)+"a", n < 4)
			}
		})
	}
	group.Wait()
}
