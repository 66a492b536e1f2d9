package trust_test

import (
	"crypto/sha256"
	"encoding/hex"
	"fmt"
	"slices"
	"strconv"
	"strings"
	"testing"

	"admission/api"
	"admission/trust"
)

// expectText checks that the encoded form of r is the one of the model, and that it is read.
func expectText(t *testing.T, name string, r api.Root) {
	t.Helper()
	want := modelText(r)
	if b, e := trust.Encode(r); e != api.OK || string(b) != want {
		t.Errorf("%s: %.200q %d, want %.200q", name, b, e, want)
	}
	expectRead(t, name, want, r, api.OK)
}

// expectRead checks Decode.
func expectRead(t *testing.T, name, text string, want api.Root, wantErrno api.Errno) {
	t.Helper()
	got, e := trust.Decode([]byte(text))
	expect(t, name, got, e, want, wantErrno)
}

// reject checks that Decode returns the error want.
func reject(t *testing.T, name, text string, want api.Errno) {
	t.Helper()
	expectRead(t, name, text, api.Root{}, want)
}

// Promise 11.2: root documents of all sorts and sizes.
func TestText(t *testing.T) {
	for _, x := range validRoots() {
		expectText(t, x.name, x.r)
	}
	for n := range 32 {
		expectText(t, fmt.Sprint(n), many(n%12+1, n+1, 2*n+2, n%12))
	}
	for _, x := range variants() {
		expectText(t, x.name, x.r)
	}
	long := strings.Repeat("n", 64)
	expectText(t, "long names", changed(sample(), func(r *api.Root) {
		r.Quotas = append(r.Quotas, api.Quota{Role: long, Need: 1})
		r.Keys[0].Owner, r.Keys[0].Roles = long, []string{"a", long, "root"}
	}))
}

// Promise 11.2: a text that a Python program wrote, which sorted the keys by the digests that it computed.
func TestKnownText(t *testing.T) {
	text := `root 3 1000
quota layout 1
quota root 2
quota step 32
key 6 101112131415161718191a1b1c1d1e1f anna 10 1099511627776 root step
key 3 f0f1f2f3f4f5f6f7f8f9fafbfcfdfeff b.e_r-t 0 1 root
key 0 000102030405060708090a0b0c0d0e0f anna 0 50 layout root
revoked sha256:000102030405060708090a0b0c0d0e0f101112131415161718191a1b1c1d1e1f 0
revoked sha256:a0c65fa3853e4eaeba5e789273638c615092bb5c3ac6a71ccd9e9cdadf5efa69 7
`
	want := api.Root{
		Version: 3, Expires: 1000,
		Quotas: []api.Quota{{Role: "layout", Need: 1}, {Role: "root", Need: 2}, {Role: "step", Need: 32}},
		Keys:   []api.Key{{Owner: "anna", Roles: []string{"root", "step"}, From: 10, Until: 1 << 40}, {Owner: "b.e_r-t", Roles: []string{"root"}, Until: 1}, {Owner: "anna", Roles: []string{"layout", "root"}, Until: 50}},
	}
	for i, height := range []int{6, 3, 0} {
		p := &want.Keys[i].Public
		p.Height = height
		for j := range p.Root {
			p.Root[j] = byte([]int{16, 240, 0}[i] + j)
		}
	}
	var counting api.Digest
	for i := range counting {
		counting[i] = byte(i)
	}
	want.Revoked = []api.Revocation{{Key: counting}, {Key: modelID(want.Keys[1].Public), At: 7}}
	expectRead(t, "known", text, want, api.OK)
	b, e := trust.Encode(want)
	if digits := fmt.Sprintf("%x", sha256.Sum256(b)); e != api.OK || digits != "7ede2aacb95bdb6db7e929fc22c845e06f56bb26689a36a1a02db69096a09c28" {
		t.Errorf("%q %d", b, e)
	}
}

// Promise 11.2: what is written as the chapter says but is not valid is not read. Numbers that are negative or too great are not written like this.
func TestDecodeInvalid(t *testing.T) {
	read := map[api.Errno]int{}
	for _, x := range invalidRoots() {
		text := modelText(x.r)
		want := api.ErrInvalid
		if strings.Contains(text, " -1") || strings.Contains(text, strconv.Itoa(maxNumber+1)) {
			want = api.ErrSyntax
		}
		reject(t, x.name, text, want)
		read[want]++
	}
	if read[api.ErrInvalid] < 80 || read[api.ErrSyntax] < 30 {
		t.Errorf("only %v", read)
	}
}

// Promise 11.2: lists that are too long, as long as a document can have them.
func TestDecodeLongLists(t *testing.T) {
	for _, x := range []struct{ quotas, keys, revoked, roles int }{
		{13, 1, 0, 0}, {1, 33, 0, 0}, {1, 1, 65, 0}, {1, 1, 0, 12}, {1, 1, 0, 113}, {998, 1, 0, 0}, {1, 998, 0, 0}, {1, 1, 997, 0}, {12, 32, 955, 11},
	} {
		reject(t, fmt.Sprint(x), modelText(many(x.quotas, x.keys, x.revoked, x.roles)), api.ErrInvalid)
	}
	for _, x := range []struct{ quotas, keys, revoked, roles int }{{999, 1, 0, 0}, {1, 999, 0, 0}, {1, 1, 998, 0}, {12, 32, 956, 11}, {1, 1, 0, 114}} {
		reject(t, fmt.Sprint(x), modelText(many(x.quotas, x.keys, x.revoked, x.roles)), api.ErrSyntax)
	}
}

// Promise 11.2: the errors of documents come first.
func TestDecodeDocuments(t *testing.T) {
	good := modelText(sample())
	tests := []struct {
		name, text string
		want       api.Errno
	}{
		{"nil", "", api.ErrSyntax},
		{"no line feed", strings.TrimSuffix(good, "\n"), api.ErrSyntax},
		{"an empty line", good + "\n", api.ErrSyntax},
		{"an empty line first", "\n" + good, api.ErrSyntax},
		{"two spaces", strings.Replace(good, " ", "  ", 1), api.ErrSyntax},
		{"a name that is written in another way", strings.Replace(good, "anna", "%61nna", 1), api.ErrSyntax},
		{"a name too long for a word", strings.Replace(good, "anna", strings.Repeat("n", api.MaxWord+1), 1), api.ErrSyntax},
		{"a name as long as a word", strings.Replace(good, "anna", strings.Repeat("n", api.MaxWord), 1), api.ErrInvalid},
		{"zeros", strings.Repeat("\x00", api.MaxDocument), api.ErrSyntax},
		{"zeros, too many", strings.Repeat("\x00", api.MaxDocument+1), api.ErrLimit},
		{"too long", good + strings.Repeat("quota root 1\n", api.MaxDocument), api.ErrLimit},
	}
	for _, x := range tests {
		reject(t, x.name, x.text, x.want)
	}
}

// lines returns the lines of the sample's text, and the words of each. The lines 1 to 3 are quotas, 4 to 10 keys, and the others revocations.
func lines() [][]string {
	var out [][]string
	for line := range strings.Lines(modelText(sample())) {
		out = append(out, strings.Fields(line))
	}
	return out
}

// joined returns the text of lines.
func joined(lines [][]string) string {
	var out strings.Builder
	for _, line := range lines {
		out.WriteString(strings.Join(line, " ") + "\n")
	}
	return out.String()
}

// withWord returns the text of the sample with another word.
func withWord(line, word int, w string) string {
	l := lines()
	l[line][word] = w
	return joined(l)
}

// expectModel checks that Decode of a text does what the model says, and returns the error.
func expectModel(t *testing.T, name, text string) api.Errno {
	t.Helper()
	want, errno := modelRead(text)
	expectRead(t, name, text, want, errno)
	return errno
}

// places calls visit for each word of the sample's text.
func places(visit func(line, word int, w string)) {
	for i, line := range lines() {
		for j, w := range line {
			visit(i, j, w)
		}
	}
}

// Promise 11.2: at each place all sorts of words, some of which belong there.
func TestDecodeWords(t *testing.T) {
	p, d := public(9), id(20)
	half := hex.EncodeToString(p.Root[:])
	words := []string{
		"~", "root", "quota", "key", "revoked", "Root", "quotas", "ke", "revoke", "anna", "Anna", "x", "0x1", "+1", "-1", "-0", "00", "01", "1.0", "1e3", "%20", "%00", "%7E",
		half, half[1:], half + "0", strings.ToUpper(half), half[:31] + "g", "sha256:" + half, "sha256:" + half + half[1:], "SHA256:" + half + half, "sha256:" + strings.ToUpper(half) + half, half + half,
		fmt.Sprintf("sha256:%x", d[:]), fmt.Sprintf("sha256:%x0", d[:]), strings.Repeat("0", 32), strings.Repeat("9", 32), "sha256:" + strings.Repeat("0", 64),
		"18446744073709551616", "18446744073709551617", "340282366920938463463374607431768211456", "4294967296", "4294967297", "4294967302",
	}
	for _, n := range numbers() {
		words = append(words, strconv.FormatInt(n, 10))
	}
	for n := range 40 {
		words = append(words, strconv.Itoa(n))
	}
	read := map[api.Errno]int{}
	places(func(line, word int, was string) {
		for _, w := range words {
			// The model knows escapes only as words that are not names.
			if strings.HasPrefix(w, "%") {
				want := api.ErrSyntax
				if line >= 1 && line <= 3 && word == 1 || line >= 4 && line <= 10 && (word == 3 || word > 5) {
					want = api.ErrInvalid
				}
				reject(t, fmt.Sprintf("line %d, word %d is %s", line, word, w), withWord(line, word, w), want)
				continue
			}
			read[expectModel(t, fmt.Sprintf("line %d, word %d is %s instead of %s", line, word, w, was), withWord(line, word, w))]++
		}
	})
	if read[api.OK] < 200 || read[api.ErrInvalid] < 500 || read[api.ErrSyntax] < 2000 || len(read) != 3 {
		t.Errorf("only %v", read)
	}
}

// Promise 11.2: numbers at each place: what is too great for a number is of another form, and what is too great for its place is not valid.
func TestDecodeNumbers(t *testing.T) {
	for _, x := range []struct {
		name        string
		line, word  int
		least, most int64
	}{
		{"Version", 0, 1, 1, 1 << 40}, {"Expires", 0, 2, 0, 1 << 40}, {"Need", 1, 2, 1, 32}, {"Need of root", 2, 2, 1, 3}, {"At", 11, 2, 0, 1 << 40},
	} {
		for _, n := range append(numbers(), 3, 4, 30) {
			_, e := trust.Decode([]byte(withWord(x.line, x.word, strconv.FormatInt(n, 10))))
			want := api.ErrInvalid
			switch {
			case n < 0 || n > 1<<40:
				want = api.ErrSyntax
			case x.least <= n && n <= x.most:
				want = api.OK
			}
			if e != want {
				t.Errorf("%s %d: %d, want %d", x.name, n, e, want)
			}
		}
	}
	for _, n := range []string{"7", "8", "64", "256", "4294967296", "1099511627776"} {
		reject(t, "Height "+n, withWord(4, 1, n), api.ErrInvalid)
	}
	for _, n := range []string{"~", "-1", "00", "1099511627777", "18446744073709551616", "x"} {
		reject(t, "Height "+n, withWord(4, 1, n), api.ErrSyntax)
	}
}

// Promise 11.2: each word left out, twice, and with another one beside it.
func TestDecodeLengths(t *testing.T) {
	places(func(line, word int, w string) {
		name := fmt.Sprintf("line %d, word %d", line, word)
		l := lines()
		if l[line] = slices.Delete(l[line], word, word+1); len(l[line]) > 0 {
			expectModel(t, name+" left out", joined(l))
		}
		l = lines()
		l[line] = l[line][:word+1]
		expectModel(t, name+" is the last one", joined(l))
		for _, more := range []string{w, "~", "x", "1", "root"} {
			l = lines()
			l[line] = slices.Insert(l[line], word, more)
			expectModel(t, name+" behind "+more, joined(l))
			l = lines()
			l[line] = append(l[line], more)
			expectModel(t, name+" and "+more+" at the end", joined(l))
		}
	})
	l := lines()
	l[4] = l[4][:6]
	reject(t, "a key without roles", joined(l), api.ErrInvalid)
	l[4] = l[4][:5]
	reject(t, "a key without an end", joined(l), api.ErrSyntax)
}

// Promise 11.2: each line left out, twice, and moved to each other place.
func TestDecodeLineOrder(t *testing.T) {
	read := map[api.Errno]int{}
	check := func(name string, l [][]string) { read[expectModel(t, name, joined(l))]++ }
	for i, line := range lines() {
		rest := slices.Delete(lines(), i, i+1)
		check(fmt.Sprintf("line %d left out", i), rest)
		for j := range len(rest) + 1 {
			check(fmt.Sprintf("line %d at %d", i, j), slices.Insert(slices.Clone(rest), j, line))
			check(fmt.Sprintf("line %d again at %d", i, j), slices.Insert(lines(), j, line))
			for _, other := range [][]string{{"~"}, {"x"}, {"root"}, {"quota"}, {"key"}, {"revoked"}, {"root", "1", "1"}, {"~", "1", "1"}} {
				check(fmt.Sprintf("%q at %d", other, j), slices.Insert(lines(), j, other))
			}
		}
	}
	if read[api.OK] < 10 || read[api.ErrInvalid] < 50 || read[api.ErrSyntax] < 500 || len(read) != 3 {
		t.Errorf("only %v", read)
	}
	for n := range lines() {
		check(fmt.Sprintf("the first %d lines", n), lines()[:n])
		check(fmt.Sprintf("the lines from %d on", n), lines()[n:])
	}
}

// Promise 11.2: a line of another form anywhere comes before a root document that is not valid.
func TestDecodeOrderOfErrors(t *testing.T) {
	for i := range len(lines()) + 1 {
		l := lines()
		l[0][1], l[4][3] = "0", "Anna"
		reject(t, "not valid", joined(l), api.ErrInvalid)
		reject(t, fmt.Sprintf("not valid, and another line at %d", i), joined(slices.Insert(l, i, []string{"x"})), api.ErrSyntax)
	}
	reject(t, "one line", "root 1 1\n", api.ErrInvalid)
	reject(t, "one line of another form", "quota root 1\n", api.ErrSyntax)
	reject(t, "an empty word", "~\n", api.ErrSyntax)
	reject(t, "two first lines", "root 1 1\nroot 1 1\n", api.ErrSyntax)
}

// Promise 11.2: quotas, keys and revocations in every order, also where one of them is missing.
func TestDecodeKindOrder(t *testing.T) {
	permutations([]int{1, 4, 12}, func(order []int) {
		for n := range order {
			text := [][]string{{"root", "0", "1"}}
			for _, i := range order[:n+1] {
				text = append(text, lines()[i])
			}
			want := api.ErrSyntax
			if slices.IsSorted(order[:n+1]) {
				want = api.ErrInvalid
			}
			reject(t, fmt.Sprintf("lines %v", order[:n+1]), joined(text), want)
		}
	})
}

// Promise 11.2: whatever one byte is changed to, inserted or taken away, Decode reads only the encoded form of what it returns.
func TestDecodeOfEdits(t *testing.T) {
	text := modelText(changed(smallest(), func(r *api.Root) {
		r.Keys[0].Roles = []string{"a", "root"}
		r.Revoked = []api.Revocation{{Key: id(1), At: 10}}
	}))
	read := map[api.Errno]int{}
	check := func(edited string) { read[expectModel(t, fmt.Sprintf("%q", edited), edited)]++ }
	for i := range text {
		check(text[:i] + text[i+1:])
		check(text[:i])
		check(text[i:])
		for _, c := range []string{"0", "1", "a", "f", "A", " ", "\n", "~", "%", "\x00", "\x7f", "\xff", ":", "-"} {
			check(text[:i] + c + text[i:])
			check(text[:i] + c + text[i+1:])
		}
	}
	if read[api.OK] < 200 || read[api.ErrInvalid] < 20 || read[api.ErrSyntax] < 3000 || len(read) != 3 {
		t.Errorf("only %v", read)
	}
}

// The rule of the language that the parts of a result share no memory: who appends to one of them does not write to another one.
func TestDecodeSharesNoMemory(t *testing.T) {
	want := many(12, 32, 64, 3)
	b := []byte(modelText(want))
	r, _ := trust.Decode(b)
	for i := range r.Keys {
		for range 20 {
			r.Keys[i].Roles = append(r.Keys[i].Roles, "x")
		}
		r.Keys[i].Roles = r.Keys[i].Roles[:4]
	}
	clear(b)
	expect(t, "after appending", r, api.OK, want, api.OK)
}
