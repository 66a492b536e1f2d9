package record_test

import (
	"crypto/sha256"
	"encoding/hex"
	"fmt"
	"slices"
	"strconv"
	"strings"
	"testing"

	"admission/api"
	"admission/record"
)

// expectText checks that the encoded form of r is the one of the model, and that it is read.
func expectText(t *testing.T, name string, r api.Record) {
	t.Helper()
	want := modelText(r)
	if b, e := record.Encode(r); e != api.OK || string(b) != want {
		t.Errorf("%s: %.300q %d, want %.300q", name, b, e, want)
	}
	expectRead(t, name, want, r, api.OK)
}

// expectRead checks Decode.
func expectRead(t *testing.T, name, text string, want api.Record, wantErrno api.Errno) {
	t.Helper()
	got, e := record.Decode([]byte(text))
	expect(t, name, got, e, want, wantErrno)
}

// reject checks that Decode returns the error want.
func reject(t *testing.T, name, text string, want api.Errno) {
	t.Helper()
	expectRead(t, name, text, api.Record{}, want)
}

// expectModel checks that Decode of a text does what the model says, and returns the error.
func expectModel(t *testing.T, name, text string) api.Errno {
	t.Helper()
	want, errno := modelRead(text)
	expectRead(t, name, text, want, errno)
	return errno
}

// expectCounts checks that there were at least so many texts of each error.
func expectCounts(t *testing.T, got map[api.Errno]int, ok, invalid, syntax int) {
	t.Helper()
	if got[api.OK] < ok || got[api.ErrInvalid] < invalid || got[api.ErrSyntax] < syntax || len(got) > 3 {
		t.Errorf("only %v", got)
	}
}

// Promise 12.3: records of all sorts and sizes.
func TestText(t *testing.T) {
	for _, x := range validRecords() {
		expectText(t, x.name, x.r)
	}
	for n := range 65 {
		expectText(t, fmt.Sprint(n), many(n%17, (n+5)%17, n, 64-n))
	}
	for _, n := range numbers() {
		if 0 <= n && n <= maxNumber {
			expectText(t, fmt.Sprintf("at %d", n), changed(sample(), func(r *api.Record) { r.At = n }))
		}
	}
	for c := range 256 {
		s := string([]byte{byte(c)})
		expectText(t, fmt.Sprintf("%q", s), changed(sample(), func(r *api.Record) { r.Command[1], r.Command[2], r.Env[1].Value = s, s+"x"+s, s+s }))
	}
	for c := 1; c < 256; c++ {
		if c != '.' && c != '/' {
			expectText(t, fmt.Sprint(c), changed(sample(), func(r *api.Record) {
				r.Materials, r.Products = files(1, string([]byte{byte(c)})), files(2, "d/"+string([]byte{byte(c)}))
			}))
		}
	}
}

// Promise 12.3: the lines of a record without anything that may be missing.
func TestSmallestText(t *testing.T) {
	if b, e := record.Encode(smallest()); e != api.OK || string(b) != "record r ~ s 0\ncommand\n" {
		t.Errorf("%q %d", b, e)
	}
	expectRead(t, "one empty word", "record r ~ s 0\ncommand ~\n", api.Record{Run: "r", Step: "s", Command: []string{""}}, api.OK)
}

// Promise 12.3: a text that a Python program wrote.
func TestKnownText(t *testing.T) {
	text := `record 2026-11 ship/pack link.x 1099511627776
command ~ ld%20-o 100%25 %7E %C3%A9%00
env a ~
env a-b x%20=%20y%0A
material a%20b.o sha256:6b86b273ff34fce19d6b804eff5a3f5747ada4eaa22f1d49c01e52ddb7875b4b
material lib/c.a sha256:d4735e3a265e16eee03f59718b9b5d03019c07d8b6c51f90da3a666eec13ab35
product lib/c.a sha256:d4735e3a265e16eee03f59718b9b5d03019c07d8b6c51f90da3a666eec13ab35
product out/%7E sha256:4e07408562bedb8b60ce05c1decfe3ad16b72230967de01f640b7e4729b49fce
`
	want := api.Record{
		Run: "2026-11", Scope: "ship/pack", Step: "link.x", At: 1 << 40,
		Command:   []string{"", "ld -o", "100%", "~", "é\x00"},
		Env:       []api.Variable{{Name: "a"}, {Name: "a-b", Value: "x = y\n"}},
		Materials: []api.Entry{{Path: "a b.o", Digest: some(1)}, {Path: "lib/c.a", Digest: some(2)}},
		Products:  []api.Entry{{Path: "lib/c.a", Digest: some(2)}, {Path: "out/~", Digest: some(3)}},
	}
	expectRead(t, "known", text, want, api.OK)
	b, e := record.Encode(want)
	if digits := fmt.Sprintf("%x", sha256.Sum256(b)); e != api.OK || digits != "7b9a2af465a8a49e29e29160b8e92d562f19c43278fb1fb760744cfd95a4bcd0" {
		t.Errorf("%q %d", b, e)
	}
}

// Promise 12.3: what is not valid is not written, and what is written as the chapter says but is not valid is not read.
func TestInvalidText(t *testing.T) {
	read := map[api.Errno]int{}
	for _, x := range invalidRecords() {
		if b, e := record.Encode(x.r); e != api.ErrInvalid || len(b) != 0 {
			t.Errorf("%s: %.100q %d", x.name, b, e)
		}
		want := api.ErrInvalid
		if x.r.At < 0 || x.r.At > maxNumber {
			want = api.ErrSyntax
		}
		reject(t, x.name, modelText(x.r), want)
		read[want]++
	}
	expectCounts(t, read, 0, 200, 2)
}

// Promise 12.3: the longest encoded form is far from the limit of a document, so a valid record always has one.
func TestLongestText(t *testing.T) {
	r := widest()
	head, command, variable := len("record ")+64+1+4*64+3+1+64+1+13+1, len("command")+16*601+1, len("env ")+64+1+600+1
	material, product := len("material ")+600+1+71+1, len("product ")+600+1+71+1
	if n, want := len(modelText(r)), head+command+16*variable+64*material+64*product; n != want || n > api.MaxDocument/2 {
		t.Errorf("%d bytes, want %d", n, want)
	}
	expectText(t, "widest", r)
}

// Promise 12.3: lists that are too long, as long as a document can have them.
func TestDecodeLongLists(t *testing.T) {
	type sizes struct{ command, env, materials, products int }
	for _, x := range []sizes{{17, 0, 0, 0}, {119, 0, 0, 0}, {0, 17, 0, 0}, {0, 0, 65, 0}, {0, 0, 0, 65}, {0, 998, 0, 0}, {0, 0, 998, 0}, {0, 0, 0, 998}, {119, 332, 333, 333}} {
		reject(t, fmt.Sprint(x), modelText(many(x.command, x.env, x.materials, x.products)), api.ErrInvalid)
	}
	for _, x := range []sizes{{120, 0, 0, 0}, {1000, 0, 0, 0}, {0, 999, 0, 0}, {0, 0, 999, 0}, {0, 0, 0, 999}, {119, 333, 333, 333}} {
		reject(t, fmt.Sprint(x), modelText(many(x.command, x.env, x.materials, x.products)), api.ErrSyntax)
	}
}

// Promise 12.3: the errors of documents come first.
func TestDecodeDocuments(t *testing.T) {
	good := modelText(sample())
	tests := []struct {
		name, text string
		want       api.Errno
	}{
		{"nothing", "", api.ErrSyntax},
		{"no line feed", strings.TrimSuffix(good, "\n"), api.ErrSyntax},
		{"an empty line at the end", good + "\n", api.ErrSyntax},
		{"an empty line first", "\n" + good, api.ErrSyntax},
		{"two spaces", strings.Replace(good, " ", "  ", 1), api.ErrSyntax},
		{"a space at the end", strings.TrimSuffix(good, "\n") + " \n", api.ErrSyntax},
		{"a word that is written in another way", strings.Replace(good, "build", "%62uild", 1), api.ErrSyntax},
		{"small digits", strings.Replace(good, "%7E", "%7e", 1), api.ErrSyntax},
		{"a tilde within a word", strings.Replace(good, "%7E", "~", 1), api.ErrSyntax},
		{"a carriage return", strings.ReplaceAll(good, "\n", "\r\n"), api.ErrSyntax},
		{"a word too long for a document", strings.Replace(good, " cc", " "+strings.Repeat("n", api.MaxWord+1), 1), api.ErrSyntax},
		{"a word as long as one of a document", strings.Replace(good, " cc", " "+strings.Repeat("n", api.MaxWord), 1), api.ErrInvalid},
		{"zeros", strings.Repeat("\x00", api.MaxDocument), api.ErrSyntax},
		{"too many zeros", strings.Repeat("\x00", api.MaxDocument+1), api.ErrLimit},
		{"too long", good + strings.Repeat("env a ~\n", api.MaxDocument/8), api.ErrLimit},
		{"two records", good + good, api.ErrSyntax},
	}
	for _, x := range tests {
		reject(t, x.name, x.text, x.want)
	}
}

// lines returns the encoded words of each line of the sample. Line 0 is its head, 1 the command, 2 to 4 are variables, 5 to 7 materials and 8 to 10 products.
func lines() [][]string {
	var out [][]string
	for line := range strings.Lines(modelText(sample())) {
		out = append(out, strings.Fields(line))
	}
	return out
}

// joined returns the text of lines.
func joined(lines [][]string) string {
	var out strings.Builder
	for _, line := range lines {
		out.WriteString(strings.Join(line, " ") + "\n")
	}
	return out.String()
}

// edited returns the text of the sample after a change of its lines.
func edited(change func(l [][]string)) string {
	l := lines()
	change(l)
	return joined(l)
}

// places calls visit for each word of the sample's text.
func places(visit func(line, word int, w string)) {
	for i, line := range lines() {
		for j, w := range line {
			visit(i, j, w)
		}
	}
}

// Promise 12.3: at each place all sorts of words, some of which belong there.
func TestDecodeWords(t *testing.T) {
	d := some(20)
	digits := hex.EncodeToString(d[:])
	words := []string{
		"~", "record", "command", "env", "material", "product", "Record", "record%00", "%00", "commands", "en", "envs", "materials", "products", "file", "a", "A", "a/b", "/", "//", "..", "%20", "%7E", "%FF", "%41", "%4", "%", "%2f", "%zz", "a~b",
		digits, "sha256:" + digits, "sha256:" + digits[1:], "sha256:" + digits + "0", "sha256:" + strings.ToUpper(digits), "SHA256:" + digits, "sha512:" + digits, "sha256:" + strings.Repeat("0", 64), "sha256:" + strings.Repeat("f", 64), "sha256:" + digits[:63] + "g", "sha256:", "sha256%3A" + digits,
		"0", "00", "01", "1", "+1", "-1", "-0", "1.0", "1e3", "0x1", "1_000", "18446744073709551616", "18446744073709551623", "340282366920938463463374607431768211456",
		"path", "lang", "z", "src/b.c", "zz", strings.Repeat("n", 64), strings.Repeat("n", 65), strings.Repeat("n", 200), strings.Repeat("n", 201), strings.Repeat("%00", 200), strings.Repeat("%00", 201), strings.Repeat("%FF", 200), strings.Repeat("%FF", 201),
	}
	for _, n := range numbers() {
		words = append(words, strconv.FormatInt(n, 10))
	}
	read := map[api.Errno]int{}
	places(func(line, word int, was string) {
		for _, w := range words {
			text := edited(func(l [][]string) { l[line][word] = w })
			read[expectModel(t, fmt.Sprintf("line %d, word %d is %.80s instead of %s", line, word, w, was), text)]++
		}
	})
	expectCounts(t, read, 500, 400, 1500)
}

// Promise 12.3: all sorts of numbers as At.
func TestDecodeTimes(t *testing.T) {
	for _, n := range append(numbers(), 9, 10, 99, 100, 1000) {
		want := api.ErrSyntax
		if 0 <= n && n <= 1<<40 {
			want = api.OK
		}
		text := edited(func(l [][]string) { l[0][4] = strconv.FormatInt(n, 10) })
		expectRead(t, fmt.Sprintf("at %d", n), text, changed(sample(), func(r *api.Record) { r.At = n }), want)
	}
}

// Promise 12.3: each word left out, twice, the last one of its line, and with another one beside it.
func TestDecodeLengths(t *testing.T) {
	read := map[api.Errno]int{}
	places(func(line, word int, w string) {
		name := fmt.Sprintf("line %d, word %d", line, word)
		check := func(name string, change func(l []string) []string) {
			read[expectModel(t, name, edited(func(l [][]string) { l[line] = change(l[line]) }))]++
		}
		check(name+" left out", func(l []string) []string { return slices.Delete(l, word, word+1) })
		check(name+" is the last one", func(l []string) []string { return l[:word+1] })
		for _, more := range []string{w, "~", "x", "1", "env", formOf(some(1))} {
			check(name+" behind "+more, func(l []string) []string { return slices.Insert(l, word, more) })
			check(name+" and "+more+" at the end", func(l []string) []string { return append(l, more) })
		}
	})
	expectCounts(t, read, 40, 0, 300)
}

// Promise 12.3: each line left out, twice, moved to each other place, and with another one before it.
func TestDecodeLineOrder(t *testing.T) {
	read := map[api.Errno]int{}
	check := func(name string, l [][]string) { read[expectModel(t, name, joined(l))]++ }
	others := [][]string{{"~"}, {"x"}, {"record"}, {"command"}, {"env"}, {"material"}, {"product"}, {"record", "r", "~", "s", "0"}, {"~", "a", "b"}, {"env", "a", "b"}, {"env", "zz", "~"}, {"material", "A", formOf(some(1))}, {"product", "~", formOf(some(1))}, {"product", "A", formOf(some(1))}, {"envs", "a", "b"}}
	for i, line := range lines() {
		rest := slices.Delete(lines(), i, i+1)
		check(fmt.Sprintf("line %d left out", i), rest)
		for j := range len(rest) + 1 {
			check(fmt.Sprintf("line %d at %d", i, j), slices.Insert(slices.Clone(rest), j, line))
			check(fmt.Sprintf("line %d again at %d", i, j), slices.Insert(lines(), j, line))
		}
	}
	for j := range len(lines()) + 1 {
		for _, other := range others {
			check(fmt.Sprintf("%q at %d", other, j), slices.Insert(lines(), j, other))
		}
		check(fmt.Sprintf("the first %d lines", j), lines()[:j])
		check(fmt.Sprintf("the lines from %d on", j), lines()[j:])
	}
	expectCounts(t, read, 20, 40, 200)
}

// Promise 12.3: the kinds of lines in every order, also where some of them are missing.
func TestDecodeKindOrder(t *testing.T) {
	read := map[api.Errno]int{}
	permutations([]int{0, 1, 2, 5, 8}, func(order []int) {
		for n := range len(order) + 1 {
			var l [][]string
			for _, i := range order[:n] {
				l = append(l, lines()[i])
			}
			want := api.ErrSyntax
			if n >= 2 && slices.IsSorted(order[:n]) && order[1] == 1 {
				want = api.OK
			}
			if e := expectModel(t, fmt.Sprint(order[:n]), joined(l)); e != want {
				t.Errorf("lines %v: %d, want %d", order[:n], e, want)
			}
			read[want]++
		}
	})
	expectCounts(t, read, 8, 0, 600)
}

// invalidLines are changes of the sample's lines after which they say a record that is not valid.
func invalidLines() map[string]func(l [][]string) {
	return map[string]func(l [][]string){
		"a run that is no name":       func(l [][]string) { l[0][1] = "R" },
		"no run":                      func(l [][]string) { l[0][1] = "~" },
		"another scope":               func(l [][]string) { l[0][2] = "a//b" },
		"no step":                     func(l [][]string) { l[0][3] = "~" },
		"a word too long":             func(l [][]string) { l[1][1] = strings.Repeat("x", 201) },
		"too many words":              func(l [][]string) { l[1] = append(l[1], numbered("w", 20)...) },
		"a variable that is no name":  func(l [][]string) { l[2][1] = "Lang" },
		"two variables exchanged":     func(l [][]string) { l[2], l[3] = l[3], l[2] },
		"a value too long":            func(l [][]string) { l[4][2] = strings.Repeat("x", 201) },
		"a material that is no path":  func(l [][]string) { l[5][1] = "/" },
		"two materials exchanged":     func(l [][]string) { l[6], l[7] = l[7], l[6] },
		"a material of a zero digest": func(l [][]string) { l[7][2] = formOf(api.Digest{}) },
		"a product that is no path":   func(l [][]string) { l[8][1] = "a/../b" },
		"two products exchanged":      func(l [][]string) { l[9], l[10] = l[10], l[9] },
		"a product of a zero digest":  func(l [][]string) { l[10][2] = formOf(api.Digest{}) },
	}
}

// malformedLines are changes of the sample's lines after which one of them has another form.
func malformedLines() map[string]func(l [][]string) {
	return map[string]func(l [][]string){
		"another first word":         func(l [][]string) { l[0][0] = "records" },
		"a head too short":           func(l [][]string) { l[0] = l[0][:4] },
		"a head too long":            func(l [][]string) { l[0] = append(l[0], "0") },
		"a time that is no number":   func(l [][]string) { l[0][4] = "07" },
		"another command":            func(l [][]string) { l[1][0] = "commands" },
		"two commands":               func(l [][]string) { l[2] = []string{"command"} },
		"two heads":                  func(l [][]string) { l[1] = l[0] },
		"a variable without a value": func(l [][]string) { l[2] = l[2][:2] },
		"a last variable too long":   func(l [][]string) { l[4] = append(l[4], "~") },
		"a material without digest":  func(l [][]string) { l[5] = l[5][:2] },
		"a material of no digest":    func(l [][]string) { l[7][2] = "sha256:" },
		"a product too long":         func(l [][]string) { l[8] = append(l[8], "~") },
		"a product of no digest":     func(l [][]string) { l[10][2] = "x" },
		"a material as last line":    func(l [][]string) { l[10][0] = "material" },
		"another last line":          func(l [][]string) { l[10][0] = "result" },
	}
}

// Promise 12.3: a line of another form anywhere comes before everything that is not valid.
func TestDecodeOrderOfErrors(t *testing.T) {
	for name, change := range invalidLines() {
		reject(t, name, edited(change), api.ErrInvalid)
		for other, bend := range malformedLines() {
			reject(t, other, edited(bend), api.ErrSyntax)
			reject(t, name+", then "+other, edited(func(l [][]string) {
				change(l)
				bend(l)
			}), api.ErrSyntax)
		}
		for other, more := range invalidLines() {
			// Two exchanges undo each other.
			if other != name {
				reject(t, name+", then "+other, edited(func(l [][]string) {
					change(l)
					more(l)
				}), api.ErrInvalid)
			}
		}
	}
}

// Promises 12.3 and 12.5: whatever one byte is changed to, inserted or taken away, Decode reads only the encoded form of what it returns.
func TestDecodeOfEdits(t *testing.T) {
	text := modelText(api.Record{
		Run: "r", Scope: "a/b", Step: "s", At: 10, Command: []string{"x", "", "~ "}, Env: variables("a=", "b=1"),
		Materials: files(1, "a", "b/c"), Products: files(2, "\xff"),
	})
	read := map[api.Errno]int{}
	check := func(edited string) {
		e := expectModel(t, fmt.Sprintf("%q", edited), edited)
		read[e]++
		if e != api.OK {
			return
		}
		r, _ := record.Decode([]byte(edited))
		if b, e := record.Encode(r); e != api.OK || string(b) != edited {
			t.Errorf("%q is the encoded form of what is read from %q", b, edited)
		}
	}
	for i := range text {
		check(text[:i] + text[i+1:])
		check(text[:i])
		check(text[i:])
		for _, c := range []string{"0", "1", "7", "a", "f", "F", "A", "z", "/", ".", " ", "\n", "~", "%", "\x00", "\x7f", "\xff", ":"} {
			check(text[:i] + c + text[i:])
			check(text[:i] + c + text[i+1:])
		}
	}
	expectCounts(t, read, 1000, 100, 5000)
}

// Promise 12.5: different records have different encoded forms, from which each of them is read.
func TestTextsDiffer(t *testing.T) {
	names := map[string]string{}
	for _, x := range append(variants(), named{"the sample", sample()}, named{"the smallest one", smallest()}, named{"the widest one", widest()}) {
		b, e := record.Encode(x.r)
		if other, found := names[string(b)]; found || e != api.OK {
			t.Errorf("%s and %s have the same encoded form", x.name, other)
		}
		names[string(b)] = x.name
		r, e := record.Decode(b)
		expect(t, x.name, r, e, x.r, api.OK)
	}
	if len(names) < 60 {
		t.Errorf("only %d", len(names))
	}
}

// Promise 12.5: nil and empty slices are the same record, and so have the same encoded form.
func TestTextOfNoElements(t *testing.T) {
	r := smallest()
	r.Command, r.Env, r.Materials, r.Products = []string{}, []api.Variable{}, []api.Entry{}, []api.Entry{}
	b, e := record.Encode(r)
	if string(b) != modelText(smallest()) || e != api.OK {
		t.Errorf("%q %d", b, e)
	}
}

// The rule of the language that the parts of a result share no memory: who appends to one of them does not write to another one.
func TestDecodeSharesNoMemory(t *testing.T) {
	want := many(5, 5, 5, 5)
	r, _ := record.Decode([]byte(modelText(want)))
	for range 20 {
		r.Command = append(r.Command, "x")
		r.Env = append(r.Env, api.Variable{Name: "x"})
		r.Materials = append(r.Materials, api.Entry{Path: "x"})
		r.Products = append(r.Products, api.Entry{Path: "x"})
	}
	r.Command, r.Env, r.Materials, r.Products = r.Command[:5], r.Env[:5], r.Materials[:5], r.Products[:5]
	expect(t, "after appending", r, api.OK, want, api.OK)
}
