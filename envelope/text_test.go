package envelope_test

import (
	"fmt"
	"slices"
	"strconv"
	"strings"
	"testing"

	"admission/api"
	"admission/envelope"
)

// expectText checks that the encoded form of e is the one of the model, and that it is read.
func expectText(t *testing.T, name string, e api.Envelope) {
	t.Helper()
	want := modelText(e)
	if b, errno := envelope.Encode(e); errno != api.OK || string(b) != want {
		t.Errorf("%s: %.80q %d, want %.80q", name, b, errno, want)
	}
	expectRead(t, name, want, e, api.OK)
}

// expectRead checks Decode.
func expectRead(t *testing.T, name, text string, want api.Envelope, wantErrno api.Errno) {
	t.Helper()
	got, errno := envelope.Decode([]byte(text))
	expect(t, name, got, errno, want, wantErrno)
}

// reject checks that Decode returns the error want.
func reject(t *testing.T, name, text string, want api.Errno) {
	t.Helper()
	expectRead(t, name, text, api.Envelope{}, want)
}

// Promise 10.6: types, payloads and signatures of all sorts and sizes.
func TestText(t *testing.T) {
	payloads := []string{"", "~", "x", "x y", "\n", "%~\x00\xff", "é", "envelope note x\n", "signature", strings.Repeat("x", api.MaxWord), strings.Repeat("\x00", api.MaxWord)}
	for b := range 256 {
		payloads = append(payloads, string([]byte{byte(b)}))
	}
	for _, payload := range payloads {
		for _, kind := range []string{"a", "note", "0", strings.Repeat("n", 64), "envelope", "signature"} {
			expectText(t, fmt.Sprintf("%.20q, %.20q", kind, payload), api.Envelope{Type: kind, Payload: []byte(payload)})
		}
	}
	for n := range 9 {
		for _, payload := range payloads[:11] {
			expectText(t, fmt.Sprintf("%d signatures, %.20q", n, payload), full("note", payload, n))
		}
	}
	expectText(t, "nil", api.Envelope{Type: "note"})
}

// Promise 10.6: keys of every height, each of their leaves, and signatures whether or not they verify.
func TestTextOfLeaves(t *testing.T) {
	e := full("note", "x", 0)
	for height := range api.MaxHeight + 1 {
		for leaf := range 1 << height {
			x := verified(leaf, height, leaf, modelMessage("note", "x"))
			expectText(t, fmt.Sprintf("height %d, leaf %d", height, leaf), with(e, x))
			expectText(t, fmt.Sprintf("height %d, leaf %d, spoiled", height, leaf), with(e, spoiled(x, leaf)))
		}
	}
	zero := api.KeySignature{Public: api.PublicKey{Height: 2}, Signature: api.Signature{Chain: make([]api.Half, 68), Path: make([]api.Half, 2)}}
	expectText(t, "zeros", with(e, zero))
}

// Promise 10.6: the largest envelope is a document.
func TestLargestText(t *testing.T) {
	payload := strings.Repeat("\xff", api.MaxWord)
	var l []api.KeySignature
	for i := range api.MaxSignatures {
		l = append(l, verified(i, 6, 63, modelMessage("note", payload)))
	}
	expectText(t, "the largest one", with(full(strings.Repeat("n", 64), payload, 0), l...))
}

// Promise 10.6: what is not valid is not written.
func TestEncodeErrors(t *testing.T) {
	for _, x := range invalid() {
		if b, errno := envelope.Encode(x.e); errno != api.ErrInvalid || len(b) != 0 {
			t.Errorf("%s: %.40q %d", x.name, b, errno)
		}
	}
}

// Promise 10.6: what is written as the chapter says but is not valid is not read.
func TestDecodeInvalid(t *testing.T) {
	e := full("note", "x", 3)
	l := e.Signatures
	high := slices.MaxFunc(l, func(x, y api.KeySignature) int { return x.Public.Height - y.Public.Height })
	tests := []named{
		{"no type", full("", "x", 2)},
		{"no name", full("Note", "x", 1)},
		{"a long name", full(strings.Repeat("n", 65), "x", 0)},
		{"a very long name", full(strings.Repeat("n", api.MaxWord), "x", 0)},
		{"nine signatures", full("note", "x", 9)},
		{"as many signatures as a document can have", full("note", "x", 90)},
		{"a signature twice", with(e, l[0], l[1], l[1], l[2])},
		{"a key twice", with(e, l[0], l[1], l[2], spoiled(l[2], 1))},
		{"a path too short", with(e, l[0], bent(high, 0, 0, 0, -1))},
		{"a path too long", with(e, l[0], bent(high, 0, 0, 0, 1))},
		{"no path", with(e, l[0], bent(high, 0, 0, 0, -high.Public.Height))},
		{"a lower key", with(e, bent(high, -1, 0, 0, 0))},
		{"a higher key", with(e, bent(high, 1, 0, 0, 0))},
	}
	for _, x := range tests {
		reject(t, x.name, modelText(x.e), api.ErrInvalid)
	}
	permutations(l, func(l []api.KeySignature) {
		want := api.ErrInvalid
		if slices.EqualFunc(l, sorted(l), equalSignatures) {
			want = api.OK
		}
		e.Signatures = l
		expectRead(t, "a permutation", modelText(e), e, want)
	})
}

// Promise 10.6: the errors of documents come first.
func TestDecodeDocuments(t *testing.T) {
	good := modelText(full("note", "x", 2))
	tests := []struct {
		name, text string
		want       api.Errno
	}{
		{"nil", "", api.ErrSyntax},
		{"no line feed", strings.TrimSuffix(good, "\n"), api.ErrSyntax},
		{"an empty line", good + "\n", api.ErrSyntax},
		{"two spaces", strings.Replace(good, " ", "  ", 1), api.ErrSyntax},
		{"a payload that is written in another way", strings.Replace(good, "note x", "note %78", 1), api.ErrSyntax},
		{"a payload too long", modelHead("note", strings.Repeat("x", api.MaxWord+1)), api.ErrSyntax},
		{"a type too long", modelHead(strings.Repeat("x", api.MaxWord+1), "x"), api.ErrSyntax},
		{"zeros", strings.Repeat("\x00", api.MaxDocument), api.ErrSyntax},
		{"zeros, too many", strings.Repeat("\x00", api.MaxDocument+1), api.ErrLimit},
		{"too long", good + strings.Repeat(modelLine(signatures(1, api.Digest{})[0]), 150), api.ErrLimit},
	}
	for _, x := range tests {
		reject(t, x.name, x.text, x.want)
	}
}

// Promise 10.6: first lines of another form.
func TestDecodeHeads(t *testing.T) {
	line := modelLine(full("note", "x", 1).Signatures[0])
	for _, head := range []string{
		"envelope", "envelope note", "envelope note x y", "envelope note x ~", "note x", "x envelope note", "Envelope note x", "envelopes note x", "envelop note x", "~ note x",
		"signature note x", "envelope%20 note x", "~", "~ ~ ~", "envelope note x" + strings.Repeat(" y", 100), strings.TrimSuffix(line, "\n"),
	} {
		reject(t, head, head+"\n", api.ErrSyntax)
		reject(t, head+", and a signature", head+"\n"+line, api.ErrSyntax)
	}
	reject(t, "a signature alone", line, api.ErrSyntax)
	reject(t, "a signature before the first line", line+"envelope note x\n", api.ErrSyntax)
	reject(t, "the first line twice", "envelope note x\nenvelope note x\n", api.ErrSyntax)
	expectRead(t, "no payload", "envelope note ~\n", api.Envelope{Type: "note"}, api.OK)
	reject(t, "no type", "envelope ~ x\n", api.ErrInvalid)
}

// withWord returns the text of e, of which one word of the last line is another one.
func withWord(e api.Envelope, i int, word string) string {
	lines := strings.SplitAfter(modelText(e), "\n")
	last := &lines[len(lines)-2]
	words := strings.Fields(*last)
	words[i] = word
	*last = strings.Join(words, " ") + "\n"
	return strings.Join(lines, "")
}

// Promise 10.6: heights that are no numbers from 0 to 6, and those that do not fit.
func TestDecodeHeights(t *testing.T) {
	for height := range 7 {
		x := verified(1, height, 0, api.Digest{})
		for i := -10; i < 300; i++ {
			want, e := api.ErrSyntax, with(full("note", "x", 0), x)
			if i == height {
				want = api.OK
			} else if 0 <= i && i <= 6 {
				want = api.ErrInvalid
			}
			expectRead(t, fmt.Sprintf("height %d instead of %d", i, height), withWord(e, 1, strconv.Itoa(i)), e, want)
		}
		for _, word := range []string{"~", "-0", "+0", "00", "0" + strconv.Itoa(height), strconv.Itoa(height) + ".0", "0x0", "a", "%20", "1099511627776", "1099511627777", "18446744073709551616", "4294967296"} {
			reject(t, fmt.Sprintf("height %s instead of %d", word, height), withWord(with(full("note", "x", 0), x), 1, word), api.ErrSyntax)
		}
	}
}

// Promise 10.6: a word at each place that is no half, or another half.
func TestDecodeHalves(t *testing.T) {
	const height = 3
	e := with(full("note", "x", 0), verified(1, height, 5, api.Digest{}))
	digits := fmt.Sprintf("%x", half(9))
	others := []string{"~", "0", digits[1:], digits + "0", strings.ToUpper(digits), digits[:31] + "g", "sha256:" + digits, digits + digits}
	for i := 2; i < 4+68+height; i++ {
		want := copied(e)
		switch x := &want.Signatures[0]; {
		case i == 2:
			x.Public.Root = half(9)
		case i == 3: // the leaf
			continue
		case i < 4+68:
			x.Signature.Chain[i-4] = half(9)
		default:
			x.Signature.Path[i-4-68] = half(9)
		}
		for _, word := range others {
			reject(t, fmt.Sprintf("word %d is %s", i, word), withWord(e, i, word), api.ErrSyntax)
		}
		expectRead(t, fmt.Sprintf("word %d is %s", i, digits), withWord(e, i, digits), want, api.OK)
	}
}

// Promise 10.6: roots are part of the key, so that another one may belong to another place.
func TestDecodeRoots(t *testing.T) {
	good := full("note", "x", 2)
	orders := map[api.Errno]int{}
	for i := range 40 {
		root := half(i)
		want := copied(good)
		want.Signatures[1].Public.Root = root
		errno := api.ErrInvalid
		if modelValid(want) {
			errno = api.OK
		}
		orders[errno]++
		expectRead(t, fmt.Sprintf("root %x", root), withWord(good, 2, fmt.Sprintf("%x", root)), want, errno)
	}
	if len(orders) != 2 {
		t.Errorf("only %v", orders)
	}
}

// Promise 10.6: leaves that are no numbers from 0 to 65535, and those that the key does not have.
func TestDecodeLeaves(t *testing.T) {
	for height := range 7 {
		e := with(full("note", "x", 0), verified(1, height, 0, api.Digest{}))
		for _, leaf := range []int{-65536, -1, 0, 1, 2, 3, 1<<height - 1, 1 << height, 1<<height + 1, 63, 64, 255, 256, 65534, 65535, 65536, 65537, 1 << 40} {
			want := copied(e)
			want.Signatures[0].Signature.Leaf = leaf
			errno := api.OK
			if leaf < 0 || leaf > 65535 {
				errno = api.ErrSyntax
			} else if leaf >= 1<<height {
				errno = api.ErrInvalid
			}
			expectRead(t, fmt.Sprintf("height %d, leaf %d", height, leaf), withWord(e, 3, strconv.Itoa(leaf)), want, errno)
		}
		for _, word := range []string{"~", "00", "-0", "+0", "x", fmt.Sprintf("%x", half(1))} {
			reject(t, fmt.Sprintf("height %d, leaf %s", height, word), withWord(e, 3, word), api.ErrSyntax)
		}
	}
}

// Promise 10.6: the first word of the lines of signatures.
func TestDecodeSignatureWord(t *testing.T) {
	e := full("note", "x", 2)
	for _, word := range []string{"~", "signatures", "Signature", "signatur", "sig", "envelope", "%20", "0"} {
		reject(t, word, withWord(e, 0, word), api.ErrSyntax)
	}
	reject(t, "signature alone", modelText(e)+"signature\n", api.ErrSyntax)
}

// Promise 10.6: every number of words of a line of a signature.
func TestDecodeLengths(t *testing.T) {
	for height := range 7 {
		e := with(full("note", "x", 0), verified(1, height, 0, api.Digest{}))
		words := append(strings.Fields(modelLine(e.Signatures[0])), slices.Repeat([]string{strings.Repeat("0", 32)}, 50)...)
		for n := 1; n < len(words); n++ {
			want := api.ErrSyntax
			if n == 4+68+height {
				want = api.OK
			} else if 4+68 <= n && n <= 4+68+6 {
				want = api.ErrInvalid
			}
			text := "envelope note x\n" + strings.Join(words[:n], " ") + "\n"
			expectRead(t, fmt.Sprintf("height %d, %d words", height, n), text, e, want)
		}
	}
}

// Promise 10.6: a line of another form anywhere comes before an envelope that is not valid.
func TestDecodeOrderOfErrors(t *testing.T) {
	lines := strings.SplitAfter(modelText(full("note", "x", 12)), "\n")
	lines = lines[:len(lines)-1]
	for n := 1; n <= len(lines); n++ {
		text := strings.Join(lines[:n], "")
		want := api.OK
		if n > 9 {
			want = api.ErrInvalid
		}
		expectRead(t, fmt.Sprintf("%d signatures", n-1), text, api.Envelope{Type: "note", Payload: []byte("x"), Signatures: full("note", "x", 12).Signatures[:n-1]}, want)
		reject(t, fmt.Sprintf("%d signatures and another line", n-1), text+"x\n", api.ErrSyntax)
		reject(t, fmt.Sprintf("%d signatures and an empty word", n-1), text+"~\n", api.ErrSyntax)
		for i := 1; i < n; i++ {
			changed := slices.Clone(lines[:n])
			changed[i] = "signed" + strings.TrimPrefix(changed[i], "signature")
			reject(t, fmt.Sprintf("line %d of %d", i, n), strings.Join(changed, ""), api.ErrSyntax)
		}
	}
	many := strings.Repeat("signature\n", api.MaxLines-1)
	reject(t, "lines of one word", "envelope note x\n"+many, api.ErrSyntax)
	reject(t, "no name before a line of another form", "envelope A x\nsignature\n", api.ErrSyntax)
}

// Promise 10.6: whatever one byte is changed to, inserted or taken away, Decode reads only the encoded form of what it returns.
func TestDecodeOfEdits(t *testing.T) {
	text := modelText(with(full("n", "x ", 0), verified(1, 1, 1, modelMessage("n", "x "))))
	read := 0
	check := func(edited string) {
		e, errno := envelope.Decode([]byte(edited))
		if errno != api.OK {
			if !equal(e, api.Envelope{}) {
				t.Errorf("%.60q: an envelope with the error %d", edited, errno)
			}
			return
		}
		read++
		if b, errno := envelope.Encode(e); errno != api.OK || string(b) != edited || modelText(e) != edited {
			t.Errorf("%.60q: written as %.60q %d", edited, b, errno)
		}
	}
	for i := range text {
		check(text[:i] + text[i+1:])
		check(text[:i])
		for _, c := range []string{"0", "1", "a", "f", "A", " ", "\n", "~", "%", "\x00"} {
			check(text[:i] + c + text[i:])
			check(text[:i] + c + text[i+1:])
		}
	}
	if read < 1000 {
		t.Errorf("only %d edited texts were read", read)
	}
}
