package document_test

import (
	"bytes"
	"fmt"
	"regexp"
	"slices"
	"strings"
	"sync"
	"testing"

	"admission/api"
	"admission/document"
)

// equal reports whether two documents are equal.
func equal(a, b [][]string) bool { return slices.EqualFunc(a, b, slices.Equal[[]string]) }

// accept checks that the encoded form of lines is text.
func accept(t *testing.T, lines [][]string, text string) {
	t.Helper()
	if b, e := document.Encode(lines); e != api.OK || string(b) != text {
		t.Errorf("Encode(%.60q): %.60q %d, want %.60q", lines, b, e, text)
	}
	if l, e := document.Decode([]byte(text)); e != api.OK || !equal(l, lines) {
		t.Errorf("Decode(%.60q): %.60q %d, want %.60q", text, l, e, lines)
	}
}

// rejectLines checks that Encode returns the error want for lines.
func rejectLines(t *testing.T, name string, lines [][]string, want api.Errno) {
	t.Helper()
	if b, e := document.Encode(lines); e != want || len(b) != 0 {
		t.Errorf("%s: %.60q %d, want %d", name, b, e, want)
	}
}

// rejectText checks that Decode returns the error want for text.
func rejectText(t *testing.T, name, text string, want api.Errno) {
	t.Helper()
	if l, e := document.Decode([]byte(text)); e != want || len(l) != 0 {
		t.Errorf("%s: %.60q %d, want %d", name, l, e, want)
	}
}

// word returns a word of n bytes, each of which stands for itself.
func word(n int) string { return strings.Repeat("w", n) }

// words returns n words.
func words(n int) []string { return slices.Repeat([]string{"w"}, n) }

// lines returns n lines.
func lines(n int) [][]string { return slices.Repeat([][]string{{"w"}}, n) }

// sized returns a document whose encoded form has n bytes, and this form.
func sized(n int) ([][]string, string) {
	var l [][]string
	var text strings.Builder
	for n > 0 {
		k := min(n, api.MaxWord+1)
		if n-k == 1 {
			k--
		}
		l = append(l, []string{word(k - 1)})
		text.WriteString(word(k-1) + "\n")
		n -= k
	}
	return l, text.String()
}

// Promises 2.2 and 2.3: documents and their encoded forms, the examples of the chapter among them.
func TestDocuments(t *testing.T) {
	tests := []struct {
		lines [][]string
		text  string
	}{
		{nil, ""},
		{[][]string{}, ""},
		{[][]string{{""}}, "~\n"},
		{[][]string{{"", ""}, {""}}, "~ ~\n~\n"},
		{[][]string{{"x", ""}, {"~"}}, "x ~\n%7E\n"},
		{[][]string{{"x"}}, "x\n"},
		{[][]string{{"x", "y", "z"}}, "x y z\n"},
		{[][]string{{"x"}, {"y", "z"}, {"x"}}, "x\ny z\nx\n"},
		{[][]string{{" "}, {"\n"}, {"a b", "c\nd"}}, "%20\n%0A\na%20b c%0Ad\n"},
		{[][]string{{"%41", "%"}, {"~~"}}, "%2541 %25\n%7E%7E\n"},
		{[][]string{{"é", "\r\n"}, {"\xff\x00"}}, "%C3%A9 %0D%0A\n%FF%00\n"},
		{[][]string{{"file", "a/b.c", "sha256:00"}}, "file a/b.c sha256:00\n"},
	}
	for _, x := range tests {
		accept(t, x.lines, x.text)
	}
}

// Promises 2.2 and 2.3: the limits, each reached.
func TestDocumentsAtLimits(t *testing.T) {
	accept(t, lines(api.MaxLines), strings.Repeat("w\n", api.MaxLines))
	accept(t, [][]string{words(api.MaxWords)}, strings.Repeat("w ", api.MaxWords-1)+"w\n")
	accept(t, [][]string{{word(api.MaxWord)}}, word(api.MaxWord)+"\n")
	accept(t, [][]string{{"a", word(api.MaxWord), "b"}, {"c"}}, "a "+word(api.MaxWord)+" b\nc\n")
	// The limit of a word is one of the word, and not of its encoded form.
	accept(t, [][]string{{strings.Repeat(" ", api.MaxWord)}}, strings.Repeat("%20", api.MaxWord)+"\n")
	for n := range 3 {
		l, text := sized(api.MaxDocument - n)
		if len(text) != api.MaxDocument-n {
			t.Fatal(len(text))
		}
		accept(t, l, text)
	}
	empty := make([]string, api.MaxWords)
	accept(t, slices.Repeat([][]string{empty}, api.MaxLines), strings.Repeat(strings.Repeat("~ ", api.MaxWords-1)+"~\n", api.MaxLines))
}

// Promise 2.2: the limits, each passed by one, and lines without words.
func TestEncodeErrors(t *testing.T) {
	over, _ := sized(api.MaxDocument + 1)
	much, _ := sized(4 * api.MaxDocument)
	// Together the words have nearly as many bytes as the document promises anything for; nobody should encode them all.
	huge := slices.Repeat([][]string{slices.Repeat([]string{word(api.MaxWord)}, api.MaxWords)}, 500)
	tests := []struct {
		name  string
		lines [][]string
		want  api.Errno
	}{
		{"a line too many", lines(api.MaxLines + 1), api.ErrLimit},
		{"many lines too many", lines(20 * api.MaxLines), api.ErrLimit},
		{"a nil line", [][]string{nil}, api.ErrInvalid},
		{"an empty line", [][]string{{}}, api.ErrInvalid},
		{"an empty line at the end", [][]string{{"a"}, {"b"}, {}}, api.ErrInvalid},
		{"an empty line in the middle", [][]string{{"a"}, {}, {"b"}}, api.ErrInvalid},
		{"a word too many", [][]string{words(api.MaxWords + 1)}, api.ErrLimit},
		{"a word too many in the last line", [][]string{{"a"}, words(api.MaxWords + 1)}, api.ErrLimit},
		{"a byte too many in a word", [][]string{{word(api.MaxWord + 1)}}, api.ErrLimit},
		{"a byte too many in the last word", [][]string{{"a"}, {"b", word(api.MaxWord + 1)}}, api.ErrLimit},
		{"an encoded byte too many in a word", [][]string{{strings.Repeat(" ", api.MaxWord+1)}}, api.ErrLimit},
		{"a byte too many", over, api.ErrLimit},
		{"much too long", much, api.ErrLimit},
		{"as long as can be", huge, api.ErrLimit},
		{"too long because it is encoded", slices.Repeat([][]string{{strings.Repeat("~", api.MaxWord)}}, 3), api.ErrLimit},
		{"too long because of the last line", [][]string{slices.Repeat([]string{word(api.MaxWord - 1)}, 8), {""}}, api.ErrLimit},
		{"too many short words", slices.Repeat([][]string{slices.Repeat([]string{"\n"}, api.MaxWords)}, api.MaxLines), api.ErrLimit},
	}
	for _, x := range tests {
		rejectLines(t, x.name, x.lines, x.want)
	}
}

// Promise 2.2: which error is returned where several apply.
func TestOrderOfEncodeErrors(t *testing.T) {
	long := []string{word(api.MaxWord + 1)}
	wide := words(api.MaxWords + 1)
	huge := slices.Repeat([]string{word(api.MaxWord)}, api.MaxWords)
	tests := []struct {
		name  string
		lines [][]string
		want  api.Errno
	}{
		{"too many lines before an empty one", slices.Concat([][]string{{}}, lines(api.MaxLines)), api.ErrLimit},
		{"an empty line before a wide one", [][]string{{}, wide}, api.ErrInvalid},
		{"an empty line before a long word", [][]string{{"a"}, {}, long}, api.ErrInvalid},
		{"a wide line before an empty one", [][]string{wide, {}}, api.ErrLimit},
		{"a long word before an empty line", [][]string{{"a"}, long, {}}, api.ErrLimit},
		{"an empty line before too many bytes", [][]string{{}, huge}, api.ErrInvalid},
		{"an empty line after too many bytes", [][]string{huge, {}}, api.ErrInvalid},
		{"an empty line after many too many bytes", append(slices.Repeat([][]string{huge}, api.MaxLines-1), nil), api.ErrInvalid},
	}
	for _, x := range tests {
		rejectLines(t, x.name, x.lines, x.want)
	}
}

// Promise 2.3: bytes that are the encoded form of no document.
func TestDecodeSyntax(t *testing.T) {
	texts := []string{
		"a", "~", " ", "\n", "\n\n", "a\n\n", "\na\n", "a\n\nb\n", "a\nb", "a\n~", "a\n ",
		" a\n", "a \n", "a  b\n", " \n", "  \n", "a\n b\n", "a \nb\n",
		"a\tb\n", "a\r\n", "a\x00\n", "a\v\n", "\xff\n", "é\n", "\u00a0\n",
		"%41\n", "%7e\n", "%0a\n", "%\n", "%2\n", "%2 0\n", "%2\n0\n", "%GG\n", "%20%\n", "a %41\n", "a\n%41\n",
		"~~\n", "a~\n", "~a\n", "a ~b\n", "%20~\n", "a % b\n",
	}
	for _, s := range texts {
		rejectText(t, s, s, api.ErrSyntax)
	}
}

// Promise 2.3: forms that would be those of documents beyond a limit, and the only limit that is an error of its own.
func TestDecodeErrors(t *testing.T) {
	_, over := sized(api.MaxDocument + 1)
	tests := []struct {
		name, text string
		want       api.Errno
	}{
		{"a line too many", strings.Repeat("x\n", api.MaxLines+1), api.ErrSyntax},
		{"as many lines as fit", strings.Repeat("x\n", api.MaxDocument/2), api.ErrSyntax},
		{"a word too many", strings.Repeat("x ", api.MaxWords) + "x\n", api.ErrSyntax},
		{"a word too many in the last line", "x\n" + strings.Repeat("x ", api.MaxWords) + "x\n", api.ErrSyntax},
		{"as many words as fit", strings.Repeat("x ", api.MaxDocument/2-1) + "x\n", api.ErrSyntax},
		{"a byte too many in a word", word(api.MaxWord+1) + "\n", api.ErrSyntax},
		{"a byte too many in the last word", "x\ny " + word(api.MaxWord+1) + "\n", api.ErrSyntax},
		{"an encoded byte too many in a word", strings.Repeat("%20", api.MaxWord+1) + "\n", api.ErrSyntax},
		{"zeros as many as fit", strings.Repeat("\x00", api.MaxDocument), api.ErrSyntax},
		{"one zero more", strings.Repeat("\x00", api.MaxDocument+1), api.ErrLimit},
		{"line feeds as many as fit", strings.Repeat("\n", api.MaxDocument), api.ErrSyntax},
		{"a byte too many", over, api.ErrLimit},
		{"a byte too many, and too many lines", strings.Repeat("x\n", api.MaxDocument/2) + "x", api.ErrLimit},
	}
	for _, x := range tests {
		rejectText(t, x.name, x.text, x.want)
	}
}

// every calls visit with every text of at most n bytes of alphabet.
func every(alphabet string, n int, visit func(string)) {
	var add func(prefix string)
	add = func(prefix string) {
		visit(prefix)
		if len(prefix) == n {
			return
		}
		for i := range len(alphabet) {
			add(prefix + alphabet[i:i+1])
		}
	}
	add("")
}

// wordForm is a regular expression for the encoded forms of words.
const wordForm = `(?:~|(?:[!-$&-}]|%(?:[01][0-9A-F]|20|25|7[EF]|[89A-F][0-9A-F]))+)`

// Promises 2.3 and 2.6: every short text is the encoded form of one document or of none.
func TestEveryShortText(t *testing.T) {
	form := regexp.MustCompile(`\A(?:` + wordForm + `(?: ` + wordForm + `)*\n)*\z`)
	good := 0
	every("A~%2507e \n", 6, func(s string) {
		l, e := document.Decode([]byte(s))
		if !form.MatchString(s) {
			if e != api.ErrSyntax || len(l) != 0 {
				t.Errorf("%q: %q %d", s, l, e)
			}
			return
		}
		good++
		if b, e2 := document.Encode(l); e != api.OK || e2 != api.OK || string(b) != s {
			t.Errorf("%q: %q %d, and back %q %d", s, l, e, b, e2)
		}
	})
	if good < 1000 {
		t.Errorf("only %d texts are forms of documents", good)
	}
}

// Promise 2.6: every short document has a form of its own, which Decode reads.
func TestEveryShortDocument(t *testing.T) {
	seen := map[string]string{}
	pool := []string{"", "~", "%", " ", "\n", "a", "a b", "%20", "%7E", "~~", "ab"}
	var l [][]string
	var build func(left int)
	build = func(left int) {
		b, e := document.Encode(l)
		name := fmt.Sprintf("%q", l)
		if old, ok := seen[string(b)]; ok || e != api.OK {
			t.Errorf("%s: %q %d, like %s", name, b, e, old)
		}
		seen[string(b)] = name
		if got, e := document.Decode(b); e != api.OK || !equal(got, l) {
			t.Errorf("%s: %q %d", name, got, e)
		}
		if left == 0 {
			return
		}
		for _, w := range pool {
			l = append(l, []string{w})
			build(left - 1)
			l = l[:len(l)-1]
			if n := len(l); n > 0 {
				old := l[n-1]
				l[n-1] = append(slices.Clone(old), w)
				build(left - 1)
				l[n-1] = old
			}
		}
	}
	build(3)
}

// Rule R4: neither the arguments nor the memory after them are modified, and no result keeps an argument.
func TestArgumentsStay(t *testing.T) {
	pool := []string{"a b", "", "c", "~", "d", "e"}
	l := [][]string{pool[0:2], pool[2:3], pool[3:5], {"unused"}}[:3]
	b, _ := document.Encode(l)
	if !slices.Equal(pool, []string{"a b", "", "c", "~", "d", "e"}) {
		t.Errorf("words were modified: %q", pool)
	}
	if want := [][]string{{"a b", ""}, {"c"}, {"~", "d"}, {"unused"}}; !equal(l[:4], want) {
		t.Errorf("lines were modified: %q", l[:4])
	}
	memory := append(bytes.Clone(b), "tail"...)
	old := bytes.Clone(memory)
	got, _ := document.Decode(memory[:len(b)])
	if !bytes.Equal(memory, old) {
		t.Errorf("bytes were modified: %q", memory)
	}
	clear(memory)
	if !equal(got, l) {
		t.Errorf("the lines changed with the bytes: %q", got)
	}
	for _, line := range got {
		_ = append(line, "more")
	}
	if !equal(got, l) {
		t.Errorf("the lines share memory: %q", got)
	}
}

// Rules R3 and R4: calls at the same time and one after the other have the same results.
func TestCallsAreIndependent(t *testing.T) {
	l := [][]string{{"a b", ""}, {"~", "%", "c"}, {word(1000)}}
	want := "a%20b ~\n%7E %25 c\n" + word(1000) + "\n"
	var group sync.WaitGroup
	for range 8 {
		group.Go(func() {
			for range 100 {
				accept(t, l, want)
				rejectLines(t, "an empty line", [][]string{{"a"}, {}}, api.ErrInvalid)
				rejectText(t, "a space at the end", "a \n", api.ErrSyntax)
			}
		})
	}
	group.Wait()
}
