package layout_test

import (
	"crypto/sha256"
	"fmt"
	"regexp"
	"slices"
	"strconv"
	"strings"
	"testing"

	"admission/api"
	"admission/layout"
)

// expectText checks that the encoded form of l is the one of the model, and that it is read.
func expectText(t *testing.T, name string, l api.Layout) {
	t.Helper()
	want := modelText(l)
	if b, e := layout.Encode(l); e != api.OK || string(b) != want {
		t.Errorf("%.200s: %.300q %d, want %.300q", name, b, e, want)
	}
	expectRead(t, name, want, l, api.OK)
}

// expectError checks that Encode returns the error want.
func expectError(t *testing.T, name string, l api.Layout, want api.Errno) {
	t.Helper()
	if b, e := layout.Encode(l); e != want || len(b) != 0 {
		t.Errorf("%.200s: %.100q %d, want %d", name, b, e, want)
	}
}

// expectRead checks Decode.
func expectRead(t *testing.T, name, text string, want api.Layout, wantErrno api.Errno) {
	t.Helper()
	got, e := layout.Decode([]byte(text))
	expect(t, name, got, e, want, wantErrno)
}

// reject checks that Decode returns the error want.
func reject(t *testing.T, name, text string, want api.Errno) {
	t.Helper()
	expectRead(t, name, text, api.Layout{}, want)
}

// expectModel checks that Decode of a text does what the model says, and returns the error.
func expectModel(t *testing.T, name, text string) api.Errno {
	t.Helper()
	want, errno := modelRead(text)
	expectRead(t, name, text, want, errno)
	return errno
}

// expectCounts checks that there were at least so many texts of each error.
func expectCounts(t *testing.T, got map[api.Errno]int, ok, invalid, syntax int) {
	t.Helper()
	if got[api.OK] < ok || got[api.ErrInvalid] < invalid || got[api.ErrSyntax] < syntax || len(got) > 3 {
		t.Errorf("only %v", got)
	}
}

// Promise 14.2: layouts of all sorts and sizes.
func TestText(t *testing.T) {
	for _, x := range validLayouts() {
		expectText(t, x.name, x.l)
	}
	for n := range 33 {
		expectText(t, fmt.Sprint(n), many(n%10+1, n%16+1, (n+5)%17, n, 32-n))
		expectText(t, fmt.Sprintf("a chain %d", n), chained(n%16+1))
	}
	for _, n := range numbers() {
		if 1 <= n && n <= maxNumber {
			expectText(t, fmt.Sprintf("version %d", n), changed(sample(), func(l *api.Layout) { l.Version = n }))
			expectText(t, fmt.Sprintf("expires %d", n), changed(sample(), func(l *api.Layout) { l.Expires = n }))
		}
	}
	for n := 1; n <= 16; n++ {
		expectText(t, fmt.Sprintf("threshold %d", n), changed(sample(), func(l *api.Layout) { l.Steps[1].By, l.Steps[1].Threshold = numbered("o", 16), n }))
	}
	for c := range 256 {
		s := string([]byte{byte(c)})
		expectText(t, fmt.Sprintf("%q", s), changed(sample(), func(l *api.Layout) {
			l.Steps[1].Command[0], l.Steps[1].Command[2] = s, s+"x"+s
			if c != 0 {
				l.Steps[0].Products[0].Pattern, l.Steps[1].Materials[0].Pattern = "x"+s+"x", "**"+s+"*"
			}
			if c != 0 && c != '/' {
				l.Steps[2].Materials[0].In, l.Steps[2].Materials[1].To = "x"+s, s+"y"
			}
		}))
	}
}

// Promise 14.2: the lines of a layout without anything that may be missing.
func TestSmallestText(t *testing.T) {
	if b, e := layout.Encode(smallest()); e != api.OK || string(b) != "layout l 1 0 ~ ~\nstep s 1 o\ncommand\n" {
		t.Errorf("%q %d", b, e)
	}
	l := smallest()
	l.Steps[0].Command = []string{""}
	expectRead(t, "one empty word", "layout l 1 0 ~ ~\nstep s 1 o\ncommand ~\n", l, api.OK)
	reject(t, "a delegated empty word", "layout l 1 0 ~ ~\ndelegate s 1 o\ncommand ~\n", api.ErrInvalid)
	l.Steps[0].Command, l.Steps[0].Delegated = nil, true
	expectRead(t, "delegated", "layout l 1 0 ~ ~\ndelegate s 1 o\ncommand\n", l, api.OK)
	reject(t, "no steps", "layout l 1 0 ~ ~\n", api.ErrInvalid)
	reject(t, "no owners", "layout l 1 0 ~ ~\nstep s 1\ncommand\n", api.ErrInvalid)
	reject(t, "no threshold", "layout l 1 0 ~ ~\nstep s\ncommand\n", api.ErrSyntax)
	reject(t, "no command", "layout l 1 0 ~ ~\nstep s 1 o\n", api.ErrSyntax)
	reject(t, "no scope", "layout l 1 0 ~\nstep s 1 o\ncommand\n", api.ErrSyntax)
	reject(t, "no words of a rule", "layout l 1 0 ~ ~\nstep s 1 o\ncommand\nmaterials\n", api.ErrSyntax)
}

// Promise 14.2: a text that a Python program wrote.
func TestKnownText(t *testing.T) {
	text := `layout shop.v2 1099511627776 0 2026-11 ship/pack
step fetch 1 anna
command
products create src/**
products disallow **
delegate build 2 anna b.e_r-t cara
command
materials match *.c fetch products src pkg/c%20code
materials match %7E%20%25?%0A fetch materials ~ ~
materials disallow **
products require out/%C3%A9
step sign 1 0 1
command ~ gpg%20-s 100%25 %7E %FF%00
materials modify \*
materials delete ?
products match ** build products ~ out
products allow x
`
	want := api.Layout{
		Name: "shop.v2", Version: 1 << 40, Run: "2026-11", Scope: "ship/pack",
		Steps: []api.StepSpec{
			{Name: "fetch", Threshold: 1, By: []string{"anna"}, Products: []api.Rule{{Kind: api.CreateRule, Pattern: "src/**"}, {Kind: api.DisallowRule, Pattern: "**"}}},
			{
				Name: "build", Delegated: true, Threshold: 2, By: []string{"anna", "b.e_r-t", "cara"},
				Materials: []api.Rule{{Kind: api.MatchRule, Pattern: "*.c", From: "fetch", Products: true, In: "src", To: "pkg/c code"}, {Kind: api.MatchRule, Pattern: "~ %?\n", From: "fetch"}, {Kind: api.DisallowRule, Pattern: "**"}},
				Products:  []api.Rule{{Kind: api.RequireRule, Pattern: "out/é"}},
			},
			{
				Name: "sign", Threshold: 1, By: []string{"0", "1"}, Command: []string{"", "gpg -s", "100%", "~", "\xff\x00"},
				Materials: []api.Rule{{Kind: api.ModifyRule, Pattern: `\*`}, {Kind: api.DeleteRule, Pattern: "?"}},
				Products:  []api.Rule{{Kind: api.MatchRule, Pattern: "**", From: "build", Products: true, To: "out"}, {Kind: api.AllowRule, Pattern: "x"}},
			},
		},
	}
	expectRead(t, "known", text, want, api.OK)
	b, e := layout.Encode(want)
	if digits := fmt.Sprintf("%x", sha256.Sum256(b)); e != api.OK || digits != "099a76a14599e3e46ce4a918331cbc8ec3950c6ff1b46a26b814eb2995bd8a88" {
		t.Errorf("%q %d", b, e)
	}
}

// written reports whether all rules of l are what their words say.
func written(l api.Layout) bool {
	for _, s := range l.Steps {
		for _, r := range slices.Concat(s.Materials, s.Products) {
			if r.Kind < 1 || r.Kind > 7 || ruleOf(ruleWords(r)) != r {
				return false
			}
		}
	}
	return true
}

// wellFormed reports whether the lines of l have the form of lines of a layout.
func wellFormed(l api.Layout) bool {
	number := func(n int64) bool { return 0 <= n && n <= maxNumber }
	for _, s := range l.Steps {
		if !number(int64(s.Threshold)) || slices.ContainsFunc(slices.Concat(s.Materials, s.Products), func(r api.Rule) bool { return !modelRule(r) }) {
			return false
		}
	}
	return number(l.Version) && number(l.Expires)
}

// Promise 14.2: what is not valid is not written, and what is written as the chapter says but is not valid is not read.
func TestInvalidText(t *testing.T) {
	read := map[api.Errno]int{}
	for _, x := range invalidLayouts() {
		expectError(t, x.name, x.l, api.ErrInvalid)
		if !written(x.l) {
			continue
		}
		want := api.ErrSyntax
		if wellFormed(x.l) {
			want = api.ErrInvalid
		}
		reject(t, x.name, modelText(x.l), want)
		read[want]++
	}
	expectCounts(t, read, 0, 300, 100)
}

// withRules returns a layout of 16 steps that have n rules altogether.
func withRules(n int) api.Layout {
	l := many(16, 1, 0, 0, 0)
	for i := range n {
		r := api.Rule{Kind: api.AllowRule, Pattern: fmt.Sprint(i)}
		s := &l.Steps[i/64]
		if i%64 < 32 {
			s.Materials = append(s.Materials, r)
		} else {
			s.Products = append(s.Products, r)
		}
	}
	return l
}

// Promise 14.2: a valid layout with too many lines for a document is not written, and as a text it is none.
func TestTooManyLines(t *testing.T) {
	for n := 960; n <= 1024; n++ {
		l := withRules(n)
		expectValid(t, fmt.Sprintf("%d rules", n), l, true)
		// There are a line of the layout and two of each step.
		if n <= 1000-1-2*16 {
			expectText(t, fmt.Sprintf("%d rules", n), l)
			continue
		}
		expectError(t, fmt.Sprintf("%d rules", n), l, api.ErrLimit)
		reject(t, fmt.Sprintf("%d rules", n), modelText(l), api.ErrSyntax)
		expectError(t, "not valid either", changed(l, func(l *api.Layout) { l.Steps[15].By = nil }), api.ErrInvalid)
	}
}

// sized returns a valid layout whose encoded form would have n bytes.
func sized(n int) api.Layout {
	l := many(15, 1, 0, 0, 0)
	left := n - len(modelText(l))
	long := api.Rule{Kind: api.AllowRule, Pattern: strings.Repeat("\xff", 200)}
	line := len("products allow ") + 3*200 + 1
	for i := 0; left >= line+2; i++ {
		l.Steps[i/32].Products = append(l.Steps[i/32].Products, long)
		left -= line
	}
	for left > 0 {
		size := min(left, 201)
		if left-size == 1 {
			size--
		}
		l.Steps[0].Command = append(l.Steps[0].Command, strings.Repeat("x", size-1))
		left -= size
	}
	return l
}

// Promise 14.2: a valid layout whose encoded form is too long for a document is not written, and as a text it is none.
func TestTooManyBytes(t *testing.T) {
	for n := api.MaxDocument - 20; n <= api.MaxDocument+700; n += 90 {
		l := sized(n)
		name := fmt.Sprintf("%d bytes", n)
		if expectValid(t, name, l, true); len(modelText(l)) != n {
			t.Fatalf("%s: %d", name, len(modelText(l)))
		}
		if n > api.MaxDocument {
			expectError(t, name, l, api.ErrLimit)
			reject(t, name, modelText(l), api.ErrLimit)
		}
	}
	for n := api.MaxDocument - 4; n <= api.MaxDocument; n++ {
		expectText(t, fmt.Sprintf("%d bytes", n), sized(n))
	}
	for n := api.MaxDocument + 1; n <= api.MaxDocument+4; n++ {
		expectError(t, fmt.Sprintf("%d bytes", n), sized(n), api.ErrLimit)
	}
	expectError(t, "not valid either", changed(sized(api.MaxDocument+1), func(l *api.Layout) { l.Steps[14].By = nil }), api.ErrInvalid)
	all := many(16, 16, 16, 0, 0)
	for i := range all.Steps {
		s := &all.Steps[i]
		s.Command = slices.Repeat([]string{strings.Repeat("\xff", 200)}, 16)
		s.Materials = slices.Repeat([]api.Rule{{Kind: api.AllowRule, Pattern: strings.Repeat("\xff", 200)}}, 32)
		s.Products = s.Materials
	}
	expectValid(t, "the longest one", all, true)
	expectError(t, "the longest one", all, api.ErrLimit)
}

// Promise 14.2: lists that are too long, as long as a document can have them.
func TestDecodeLongLists(t *testing.T) {
	type sizes struct{ steps, by, command, materials, products int }
	for _, x := range []sizes{{17, 1, 0, 0, 0}, {499, 1, 0, 0, 0}, {1, 17, 0, 0, 0}, {1, 117, 0, 0, 0}, {1, 1, 17, 0, 0}, {1, 1, 119, 0, 0}, {1, 1, 0, 33, 0}, {1, 1, 0, 0, 33}, {1, 1, 0, 997, 0}, {1, 1, 0, 0, 997}, {27, 117, 119, 20, 15}} {
		text := modelText(many(x.steps, x.by, x.command, x.materials, x.products))
		reject(t, fmt.Sprint(x), text, api.ErrInvalid)
		// A last line of another form comes before all of it.
		end := strings.LastIndex(strings.TrimSuffix(text, "\n"), "\n") + 1
		for _, last := range []string{"x\n", "command x y\nallow\n", "products create\n", "step s 1 o\n"} {
			reject(t, fmt.Sprintf("%v, then %q", x, last), text[:end]+last, api.ErrSyntax)
		}
	}
	for _, x := range []sizes{{500, 1, 0, 0, 0}, {1, 118, 0, 0, 0}, {1, 1, 120, 0, 0}, {1, 1, 1000, 0, 0}, {1, 1, 0, 998, 0}, {1, 1, 0, 0, 998}, {27, 117, 119, 20, 16}} {
		reject(t, fmt.Sprint(x), modelText(many(x.steps, x.by, x.command, x.materials, x.products)), api.ErrSyntax)
	}
}

// Promise 14.2: the errors of documents come first.
func TestDecodeDocuments(t *testing.T) {
	good := modelText(sample())
	tests := []struct {
		name, text string
		want       api.Errno
	}{
		{"nothing", "", api.ErrSyntax},
		{"no line feed", strings.TrimSuffix(good, "\n"), api.ErrSyntax},
		{"an empty line at the end", good + "\n", api.ErrSyntax},
		{"an empty line first", "\n" + good, api.ErrSyntax},
		{"two spaces", strings.Replace(good, " ", "  ", 1), api.ErrSyntax},
		{"a space at the end", strings.TrimSuffix(good, "\n") + " \n", api.ErrSyntax},
		{"a word that is written in another way", strings.Replace(good, "build", "%62uild", 1), api.ErrSyntax},
		{"small digits", strings.Replace(good, "make", "%7e", 1), api.ErrSyntax},
		{"a tilde within a word", strings.Replace(good, "make", "a~", 1), api.ErrSyntax},
		{"a carriage return", strings.ReplaceAll(good, "\n", "\r\n"), api.ErrSyntax},
		{"a word too long for a document", strings.Replace(good, " make", " "+strings.Repeat("n", api.MaxWord+1), 1), api.ErrSyntax},
		{"a word as long as one of a document", strings.Replace(good, " make", " "+strings.Repeat("n", api.MaxWord), 1), api.ErrInvalid},
		{"a pattern as long as a word of a document", strings.Replace(good, " src/*", " "+strings.Repeat("n", api.MaxWord), 1), api.ErrSyntax},
		{"zeros", strings.Repeat("\x00", api.MaxDocument), api.ErrSyntax},
		{"too many zeros", strings.Repeat("\x00", api.MaxDocument+1), api.ErrLimit},
		{"too long", good + strings.Repeat("command\n", api.MaxDocument/8), api.ErrLimit},
		{"two layouts", good + good, api.ErrSyntax},
	}
	for _, x := range tests {
		reject(t, x.name, x.text, x.want)
	}
}

// lines returns the encoded words of each line of the sample. Line 0 is the one of the layout. The steps begin at 1, 6, 12 and 19 and go on with their command; the lines 8, 9 and 14 to 16 are rules of materials, and the others rules of products.
func lines() [][]string {
	var out [][]string
	for line := range strings.Lines(modelText(sample())) {
		out = append(out, strings.Fields(line))
	}
	return out
}

// joined returns the text of lines.
func joined(lines [][]string) string {
	var out strings.Builder
	for _, line := range lines {
		out.WriteString(strings.Join(line, " ") + "\n")
	}
	return out.String()
}

// edited returns the text of the sample after a change of its lines.
func edited(change func(l [][]string)) string {
	l := lines()
	change(l)
	return joined(l)
}

// places calls visit for each word of the sample's text.
func places(visit func(line, word int, w string)) {
	for i, line := range lines() {
		for j, w := range line {
			visit(i, j, w)
		}
	}
}

// Promise 14.2: at each place all sorts of words, some of which belong there.
func TestDecodeWords(t *testing.T) {
	words := []string{
		"~", "layout", "step", "delegate", "command", "materials", "products", "Layout", "layout%00", "%00", "steps", "ste", "delegated", "commands", "material", "product",
		"match", "create", "modify", "delete", "allow", "disallow", "require", "Match", "matches", "a", "A", "a/b", "a/b/c/d/e", "/", "//", "..", "*", "**", `\`, `\\`, "%20", "%7E", "%FF", "%41", "%4", "%", "%2f", "%zz", "a~b",
		"00", "01", "+1", "-1", "-0", "1.0", "1e3", "0x1", "1_000", "18446744073709551616", "18446744073709551617", "340282366920938463463374607431768211457",
		"fetch", "build", "check", "sign", "anna", "bert", "x-y.z", "zz", "run-1", "ship/pack", strings.Repeat("n", 64), strings.Repeat("n", 65), strings.Repeat("n", 200), strings.Repeat("n", 201), strings.Repeat("%FF", 200), strings.Repeat("%FF", 201), strings.Repeat("%00", 200),
	}
	for _, n := range numbers() {
		words = append(words, strconv.FormatInt(n, 10))
	}
	read := map[api.Errno]int{}
	places(func(line, word int, was string) {
		for _, w := range words {
			text := edited(func(l [][]string) { l[line][word] = w })
			read[expectModel(t, fmt.Sprintf("line %d, word %d is %.80s instead of %s", line, word, w, was), text)]++
		}
	})
	expectCounts(t, read, 1000, 1000, 3000)
}

// Promise 14.2: numbers at each place: what is too great for a number is of another form, and what is too great for its place is not valid.
func TestDecodeNumbers(t *testing.T) {
	for _, x := range []struct {
		name        string
		line, word  int
		least, most int64
	}{
		{"Version", 0, 2, 1, 1 << 40}, {"Expires", 0, 3, 0, 1 << 40}, {"Threshold", 1, 2, 1, 1}, {"Threshold", 6, 2, 1, 3}, {"Threshold", 12, 2, 1, 2}, {"Threshold", 19, 2, 1, 3},
	} {
		for _, n := range append(numbers(), 9, 10, 99, 100, 1000) {
			want := api.ErrInvalid
			switch {
			case n < 0 || n > 1<<40:
				want = api.ErrSyntax
			case x.least <= n && n <= x.most:
				want = api.OK
			}
			_, e := layout.Decode([]byte(edited(func(l [][]string) { l[x.line][x.word] = strconv.FormatInt(n, 10) })))
			if e != want {
				t.Errorf("%s %d: %d, want %d", x.name, n, e, want)
			}
		}
	}
	for owners := range 18 {
		for _, n := range append(numbers(), 15, 18, 32) {
			text := strings.Join(append([]string{"layout l 1 0 ~ ~\nstep s", fmt.Sprint(n)}, numbered("o", owners)...), " ") + "\ncommand\n"
			want := api.ErrSyntax
			switch {
			case 1 <= n && n <= int64(owners) && owners <= 16:
				want = api.OK
			case 0 <= n && n <= 1<<40:
				want = api.ErrInvalid
			}
			if e := expectModel(t, fmt.Sprintf("%d of %d owners", n, owners), text); e != want {
				t.Errorf("%d of %d owners: %d, want %d", n, owners, e, want)
			}
		}
	}
}

// Promise 14.2: each word left out, twice, the last one of its line, and with another one beside it.
func TestDecodeLengths(t *testing.T) {
	read := map[api.Errno]int{}
	places(func(line, word int, w string) {
		name := fmt.Sprintf("line %d, word %d", line, word)
		check := func(name string, change func(l []string) []string) {
			read[expectModel(t, name, edited(func(l [][]string) { l[line] = change(l[line]) }))]++
		}
		check(name+" left out", func(l []string) []string { return slices.Delete(l, word, word+1) })
		check(name+" is the last one", func(l []string) []string { return l[:word+1] })
		for _, more := range []string{w, "~", "x", "1", "step", "match", "materials"} {
			check(name+" behind "+more, func(l []string) []string { return slices.Insert(l, word, more) })
			check(name+" and "+more+" at the end", func(l []string) []string { return append(l, more) })
		}
	})
	expectCounts(t, read, 40, 10, 500)
}

// Promise 14.2: each line left out, twice, moved to each other place, and with another one before it.
func TestDecodeLineOrder(t *testing.T) {
	read := map[api.Errno]int{}
	check := func(name string, l [][]string) { read[expectModel(t, name, joined(l))]++ }
	others := []string{
		"~", "x", "layout", "layout l 1 0 ~ ~", "step", "step s", "step s 1", "step s 1 o", "delegate", "delegate s 1 o", "delegate s 1 o p", "command", "command x", "materials", "materials allow", "materials allow a", "materials allow a b",
		"materials match a fetch products ~ ~", "products", "products allow a", "products match a fetch products ~ ~", "products match a fetch products ~", "materials match a sign products ~ ~", "products match a app products ~ ~", "allow a", "steps s 1 o", "Command", "material allow a", "product allow a",
	}
	for i, line := range lines() {
		rest := slices.Delete(lines(), i, i+1)
		check(fmt.Sprintf("line %d left out", i), rest)
		for j := range len(rest) + 1 {
			check(fmt.Sprintf("line %d at %d", i, j), slices.Insert(slices.Clone(rest), j, line))
			check(fmt.Sprintf("line %d again at %d", i, j), slices.Insert(lines(), j, line))
		}
	}
	for j := range len(lines()) + 1 {
		for _, other := range others {
			check(fmt.Sprintf("%q at %d", other, j), slices.Insert(lines(), j, strings.Fields(other)))
		}
		check(fmt.Sprintf("a step at %d", j), slices.Insert(lines(), j, []string{"step", "s", "1", "o"}, []string{"command"}))
		check(fmt.Sprintf("the first %d lines", j), lines()[:j])
		check(fmt.Sprintf("the lines from %d on", j), lines()[j:])
	}
	expectCounts(t, read, 100, 50, 500)
}

// Promise 14.2: every list of up to six lines, of which there are all kinds.
func TestDecodeKindOrder(t *testing.T) {
	kinds := map[byte]string{'L': "layout l 1 0 ~ ~\n", 'S': "step s 1 o\n", 'D': "delegate d 1 o\n", 'C': "command\n", 'M': "materials allow a\n", 'P': "products allow a\n"}
	form := regexp.MustCompile(`\AL(?:[SD]CM*P*)*\z`)
	read := map[api.Errno]int{}
	var check func(letters, text string)
	check = func(letters, text string) {
		want := api.ErrSyntax
		if form.MatchString(letters) {
			want = api.ErrInvalid
			if s, d := strings.Count(letters, "S"), strings.Count(letters, "D"); s <= 1 && d <= 1 && s+d > 0 {
				want = api.OK
			}
		}
		if _, e := layout.Decode([]byte(text)); e != want {
			t.Errorf("%s: %d, want %d", letters, e, want)
		}
		read[want]++
		if len(letters) < 6 {
			for c, line := range kinds {
				check(letters+string(c), text+line)
			}
		}
	}
	check("", "")
	expectCounts(t, read, 30, 5, 50000)
}

// invalidLines are changes of the sample's lines after which they say a layout that is not valid.
func invalidLines() map[string]func(l [][]string) {
	return map[string]func(l [][]string){
		"a name that is none":          func(l [][]string) { l[0][1] = "App" },
		"no version":                   func(l [][]string) { l[0][2] = "0" },
		"no run":                       func(l [][]string) { l[0][4] = "~" },
		"another scope":                func(l [][]string) { l[0][5] = "a//b" },
		"a step that is no name":       func(l [][]string) { l[19][1] = "Sign" },
		"a threshold of none":          func(l [][]string) { l[1][2] = "0" },
		"a threshold too great":        func(l [][]string) { l[6][2] = "4" },
		"the greatest threshold":       func(l [][]string) { l[12][2] = "1099511627776" },
		"two owners exchanged":         func(l [][]string) { l[6][3], l[6][4] = l[6][4], l[6][3] },
		"an owner that is no name":     func(l [][]string) { l[12][4] = "~" },
		"too many owners":              func(l [][]string) { l[19] = append(l[19], numbered("y", 14)...) },
		"a word too long":              func(l [][]string) { l[7][1] = strings.Repeat("x", 201) },
		"too many words":               func(l [][]string) { l[20] = append(l[20], numbered("w", 16)...) },
		"a delegated command":          func(l [][]string) { l[13] = append(l[13], "make") },
		"materials from a later step":  func(l [][]string) { l[8][3] = "check" },
		"materials from the same step": func(l [][]string) { l[14][3] = "check" },
		"products from a later step":   func(l [][]string) { l[10][3] = "sign" },
		"products from no step":        func(l [][]string) { l[21][3] = "deploy" },
	}
}

// malformedLines are changes of the sample's lines after which one of them has another form.
func malformedLines() map[string]func(l [][]string) {
	return map[string]func(l [][]string){
		"another first word":            func(l [][]string) { l[0][0] = "layouts" },
		"a first line too short":        func(l [][]string) { l[0] = l[0][:5] },
		"a first line too long":         func(l [][]string) { l[0] = append(l[0], "0") },
		"a version that is no number":   func(l [][]string) { l[0][2] = "03" },
		"an end that is no number":      func(l [][]string) { l[0][3] = "-1" },
		"a step of another word":        func(l [][]string) { l[1][0] = "steps" },
		"a step without a threshold":    func(l [][]string) { l[12] = l[12][:2] },
		"a threshold that is no number": func(l [][]string) { l[19][2] = "1099511627777" },
		"another command":               func(l [][]string) { l[2][0] = "commands" },
		"a step without a command":      func(l [][]string) { l[13] = []string{"materials", "allow", "a"} },
		"two commands":                  func(l [][]string) { l[3] = []string{"command"} },
		"materials after products":      func(l [][]string) { l[18][0] = "materials" },
		"a rule of another kind":        func(l [][]string) { l[4][1] = "requires" },
		"a rule without words":          func(l [][]string) { l[9] = l[9][:1] },
		"a rule too long":               func(l [][]string) { l[17] = append(l[17], "a") },
		"a rule without a pattern":      func(l [][]string) { l[11][2] = "~" },
		"a rule of a step that is none": func(l [][]string) { l[16][3] = "Build" },
		"a rule of another side":        func(l [][]string) { l[15][4] = "product" },
		"a directory that is none":      func(l [][]string) { l[10][5] = "/" },
		"another last line":             func(l [][]string) { l[21][0] = "results" },
	}
}

// Promise 14.2: a line of another form anywhere comes before everything that is not valid.
func TestDecodeOrderOfErrors(t *testing.T) {
	for name, change := range invalidLines() {
		reject(t, name, edited(change), api.ErrInvalid)
		for other, bend := range malformedLines() {
			reject(t, other, edited(bend), api.ErrSyntax)
			reject(t, name+", then "+other, edited(func(l [][]string) {
				change(l)
				bend(l)
			}), api.ErrSyntax)
		}
		for other, more := range invalidLines() {
			// Two exchanges undo each other.
			if other != name {
				reject(t, name+", then "+other, edited(func(l [][]string) {
					change(l)
					more(l)
				}), api.ErrInvalid)
			}
		}
	}
}

// Promise 14.2: whatever one byte is changed to, inserted or taken away, Decode reads only the encoded form of what it returns.
func TestDecodeOfEdits(t *testing.T) {
	text := modelText(api.Layout{
		Name: "l", Version: 10, Expires: 20, Run: "r", Scope: "a/b",
		Steps: []api.StepSpec{
			{Name: "s", Threshold: 1, By: []string{"a", "b"}, Command: []string{"x", "", "~ "}, Products: list("allow *.c; disallow **")},
			{Name: "t", Delegated: true, Threshold: 2, By: []string{"a", "b"}, Materials: list("match * s products a ~; match \\* s materials ~ \xff")},
		},
	})
	read := map[api.Errno]int{}
	check := func(edited string) {
		e := expectModel(t, fmt.Sprintf("%q", edited), edited)
		read[e]++
		if e != api.OK {
			return
		}
		l, _ := layout.Decode([]byte(edited))
		if b, e := layout.Encode(l); e != api.OK || string(b) != edited {
			t.Errorf("%q is the encoded form of what is read from %q", b, edited)
		}
	}
	for i := range text {
		check(text[:i] + text[i+1:])
		check(text[:i])
		check(text[i:])
		for _, c := range []string{"0", "1", "7", "a", "f", "F", "A", "z", "/", ".", " ", "\n", "~", "%", "\x00", "\x7f", "\xff", "*", "\\"} {
			check(text[:i] + c + text[i:])
			check(text[:i] + c + text[i+1:])
		}
	}
	expectCounts(t, read, 700, 250, 5000)
}

// Promise 14.2: different layouts have different encoded forms, from which each of them is read.
func TestTextsDiffer(t *testing.T) {
	names := map[string]string{}
	for _, x := range append(variants(), named{"the sample", sample()}, named{"the smallest one", smallest()}) {
		b, e := layout.Encode(x.l)
		if other, found := names[string(b)]; found || e != api.OK {
			t.Errorf("%s and %s have the same encoded form", x.name, other)
		}
		names[string(b)] = x.name
		l, e := layout.Decode(b)
		expect(t, x.name, l, e, x.l, api.OK)
	}
	if len(names) < 100 {
		t.Errorf("only %d", len(names))
	}
}

// Promise 14.2: nil and empty slices are the same layout, and so have the same encoded form.
func TestTextOfNoElements(t *testing.T) {
	l := smallest()
	l.Steps[0].Command, l.Steps[0].Materials, l.Steps[0].Products = []string{}, []api.Rule{}, []api.Rule{}
	b, e := layout.Encode(l)
	if string(b) != modelText(smallest()) || e != api.OK {
		t.Errorf("%q %d", b, e)
	}
}

// The rule of the language that the parts of a result share no memory: who appends to one of them does not write to another one.
func TestDecodeSharesNoMemory(t *testing.T) {
	want := many(5, 5, 5, 5, 5)
	l, _ := layout.Decode([]byte(modelText(want)))
	for range 20 {
		for i := range l.Steps {
			s := &l.Steps[i]
			s.By, s.Command = append(s.By, "x"), append(s.Command, "x")
			s.Materials, s.Products = append(s.Materials, match("x")), append(s.Products, match("x"))
		}
	}
	for i := range l.Steps {
		s := &l.Steps[i]
		s.By, s.Command, s.Materials, s.Products = s.By[:5], s.Command[:5], s.Materials[:5], s.Products[:5]
	}
	expect(t, "after appending", l, api.OK, want, api.OK)
}
