package digest_test

import (
	"bytes"
	"crypto/sha256"
	"encoding/hex"
	"fmt"
	"slices"
	"strings"
	"sync"
	"testing"

	"admission/api"
	"admission/digest"
)

// sample returns n bytes without a short period.
func sample(n int) []byte {
	b := make([]byte, n)
	x := uint32(n) + 1
	for i := range b {
		x = x*1664525 + 1013904223
		b[i] = byte(x >> 24)
	}
	return b
}

// digests returns n different digests.
func digests(n int) []api.Digest {
	l := make([]api.Digest, n)
	for i := range l {
		l[i] = sha256.Sum256(sample(i))
	}
	return l
}

// joined returns the digest that the standard library computes of the concatenation of parts.
func joined(parts ...[]byte) api.Digest {
	return sha256.Sum256(bytes.Join(parts, nil))
}

// Promise 1.1: the examples of FIPS 180-4 and of the chapter.
func TestSumOfKnownMessages(t *testing.T) {
	tests := []struct{ name, message, want string }{
		{"no bytes", "", "e3b0c44298fc1c149afbf4c8996fb92427ae41e4649b934ca495991b7852b855"},
		{"one block", "abc", "ba7816bf8f01cfea414140de5dae2223b00361a396177a9cb410ff61f20015ad"},
		{"padding in a second block", "abcdbcdecdefdefgefghfghighijhijkijkljklmklmnlmnomnopnopq",
			"248d6a61d20638b8e5c026930c3e6039a33ce45964ff2167f6ecedd419db06c1"},
		{"two blocks", "abcdefghbcdefghicdefghijdefghijkefghijklfghijklmghijklmnhijklmnoijklmnopjklmnopqklmnopqrlmnopqrsmnopqrstnopqrstu",
			"cf5b16a778af8380036ce59e7b0492370b249b11e8f07a51afac45037afee9d1"},
		{"a million bytes", strings.Repeat("a", 1000000),
			"cdc76e5c9914fb9281a1c7e284d73e67f1809a48a497200e046d39ccc7112cd0"},
	}
	for _, x := range tests {
		got := digest.Sum([]byte(x.message))
		if hex.EncodeToString(got[:]) != x.want {
			t.Errorf("%s: %x, want %s", x.name, got, x.want)
		}
	}
	if digest.Sum(nil) != digest.Sum([]byte{}) {
		t.Error("a nil slice and an empty slice have different digests")
	}
}

// Promise 1.1: every length around the ends of the first blocks.
func TestSumOfEveryLength(t *testing.T) {
	for n := range 4*64 + 2 {
		b := sample(n)
		if got, want := digest.Sum(b), joined(b); got != want {
			t.Errorf("%d bytes: %x, want %x", n, got, want)
		}
	}
}

// Promise 1.1: Half does not depend on how its bytes are divided into parts.
func TestHalfOfEveryDivision(t *testing.T) {
	for _, n := range []int{0, 1, 55, 56, 63, 64, 65, 127, 128, 129, 200} {
		b := sample(n)
		want := joined(b)
		for i := range n + 1 {
			for _, j := range []int{i, (i + n) / 2, n} {
				parts := [][]byte{b[:i], b[i:j], b[j:]}
				if got := digest.Half(parts); !bytes.Equal(got[:], want[:16]) {
					t.Errorf("%d bytes, divided at %d and %d: %x, want %x", n, i, j, got, want[:16])
				}
			}
		}
	}
}

// Promise 1.1: no parts, empty parts and many parts.
func TestHalfOfUnusualParts(t *testing.T) {
	b := sample(300)
	var single [][]byte
	for i := range b {
		single = append(single, b[i:i+1], nil)
	}
	tests := []struct {
		name  string
		parts [][]byte
		bytes []byte
	}{
		{"nil", nil, nil},
		{"no parts", [][]byte{}, nil},
		{"one nil part", [][]byte{nil}, nil},
		{"empty parts", [][]byte{{}, nil, {}}, nil},
		{"empty parts around a block", [][]byte{{}, b[:64], nil, b[64:128], {}}, b[:128]},
		{"single bytes", single, b},
	}
	for _, x := range tests {
		want := joined(x.bytes)
		if got := digest.Half(x.parts); !bytes.Equal(got[:], want[:16]) {
			t.Errorf("%s: %x, want %x", x.name, got, want[:16])
		}
	}
	if digest.Half([][]byte{[]byte("a"), []byte("b")}) == digest.Half([][]byte{[]byte("b"), []byte("a")}) {
		t.Error("Half does not depend on the order of the parts")
	}
}

// Promise 1.1: the number of bits of the message does not fit into 32 bits.
func TestHalfOfLongMessage(t *testing.T) {
	if testing.Short() {
		t.Skip("digests more than 2^29 bytes")
	}
	parts := slices.Repeat([][]byte{sample(1 << 16)}, 1<<13)
	parts = append(parts, sample(5))
	std := sha256.New()
	for _, p := range parts {
		std.Write(p)
	}
	want := std.Sum(nil)
	if got := digest.Half(parts); !bytes.Equal(got[:], want[:16]) {
		t.Errorf("%x, want %x", got, want[:16])
	}
}

// Promise 1.2.
func TestLeaf(t *testing.T) {
	for n := range 3*64 + 2 {
		b := sample(n)
		if got, want := digest.Leaf(b), joined([]byte{0}, b); got != want {
			t.Errorf("%d bytes: %x, want %x", n, got, want)
		}
	}
	if got, want := digest.Leaf(nil), joined([]byte{0}); got != want {
		t.Errorf("nil: %x, want %x", got, want)
	}
}

// Promise 1.2.
func TestNode(t *testing.T) {
	l := append(digests(6), api.Digest{})
	for _, a := range l {
		for _, b := range l {
			if got, want := digest.Node(a, b), joined([]byte{1}, a[:], b[:]); got != want {
				t.Errorf("%x and %x: %x, want %x", a, b, got, want)
			}
			if a != b && digest.Node(a, b) == digest.Node(b, a) {
				t.Errorf("%x and %x: the order does not matter", a, b)
			}
			if digest.Node(a, b) == digest.Leaf(append(a[:], b[:]...)) {
				t.Errorf("%x and %x: a node equals a leaf", a, b)
			}
		}
	}
}

// Promise 1.3: the shapes of small trees, written out.
func TestTreeShapes(t *testing.T) {
	l := digests(9)
	n := digest.Node
	four := n(n(l[0], l[1]), n(l[2], l[3]))
	eight := n(four, n(n(l[4], l[5]), n(l[6], l[7])))
	want := []api.Digest{
		{},
		l[0],
		n(l[0], l[1]),
		n(n(l[0], l[1]), l[2]),
		four,
		n(four, l[4]),
		n(four, n(l[4], l[5])),
		n(four, n(n(l[4], l[5]), l[6])),
		eight,
		n(eight, l[8]),
	}
	for i, w := range want {
		if got := digest.Tree(l[:i]); got != w {
			t.Errorf("%d elements: %x, want %x", i, got, w)
		}
	}
	if digest.Tree(nil) != (api.Digest{}) {
		t.Error("the root over nil is not the zero Digest")
	}
}

// growing computes the root over l by another way: it keeps the roots of full subtrees, the greatest first.
func growing(l []api.Digest) api.Digest {
	var full []api.Digest
	for i, d := range l {
		full = append(full, d)
		for n := i + 1; n%2 == 0; n /= 2 {
			k := len(full) - 2
			full = append(full[:k], joined([]byte{1}, full[k][:], full[k+1][:]))
		}
	}
	for len(full) > 1 {
		k := len(full) - 2
		full = append(full[:k], joined([]byte{1}, full[k][:], full[k+1][:]))
	}
	if len(full) == 0 {
		return api.Digest{}
	}
	return full[0]
}

// Promise 1.3: numbers that are powers of two, next to them, and between.
func TestTreeOfEveryNumber(t *testing.T) {
	l := digests(1025)
	numbers := []int{255, 256, 257, 511, 512, 513, 1000, 1023, 1024, 1025}
	for n := range 140 {
		numbers = append(numbers, n)
	}
	for _, n := range numbers {
		if got, want := digest.Tree(l[:n]), growing(l[:n]); got != want {
			t.Errorf("%d elements: %x, want %x", n, got, want)
		}
	}
}

// Promise 1.3: equal and zero elements are not treated as others.
func TestTreeOfEqualElements(t *testing.T) {
	for n := range 20 {
		zeros := make([]api.Digest, n)
		if got, want := digest.Tree(zeros), growing(zeros); got != want {
			t.Errorf("%d zero elements: %x, want %x", n, got, want)
		}
		same := slices.Repeat(digests(1), n)
		if got, want := digest.Tree(same), growing(same); got != want {
			t.Errorf("%d equal elements: %x, want %x", n, got, want)
		}
	}
}

// counting returns the bytes from start on.
func counting(b []byte, start int) {
	for i := range b {
		b[i] = byte(start + i)
	}
}

// Promise 1.4: all values of a byte, and the way back.
func TestFormat(t *testing.T) {
	for start := 0; start < 256; start += 16 {
		var d api.Digest
		counting(d[:], start)
		s := digest.Format(d)
		if want := fmt.Sprintf("sha256:%x", d[:]); s != want {
			t.Errorf("%s, want %s", s, want)
		}
		if got, ok := digest.Parse(s); !ok || got != d {
			t.Errorf("Parse(%s): %x %t", s, got, ok)
		}
		var h api.Half
		counting(h[:], start)
		s = digest.FormatHalf(h)
		if want := fmt.Sprintf("%x", h[:]); s != want {
			t.Errorf("%s, want %s", s, want)
		}
		if got, ok := digest.ParseHalf(s); !ok || got != h {
			t.Errorf("ParseHalf(%s): %x %t", s, got, ok)
		}
	}
}

// Promise 1.4: the zero values are values like all others.
func TestFormatZero(t *testing.T) {
	zero := "sha256:" + strings.Repeat("0", 64)
	if s := digest.Format(api.Digest{}); s != zero {
		t.Error(s)
	}
	if d, ok := digest.Parse(zero); !ok || d != (api.Digest{}) {
		t.Errorf("%x %t", d, ok)
	}
	zero = strings.Repeat("0", 32)
	if s := digest.FormatHalf(api.Half{}); s != zero {
		t.Error(s)
	}
	if h, ok := digest.ParseHalf(zero); !ok || h != (api.Half{}) {
		t.Errorf("%x %t", h, ok)
	}
}

// rejectDigest checks that s is the text of no Digest.
func rejectDigest(t *testing.T, s string) {
	t.Helper()
	if d, ok := digest.Parse(s); ok || d != (api.Digest{}) {
		t.Errorf("Parse(%q): %x %t", s, d, ok)
	}
}

// rejectHalf checks that s is the text of no Half.
func rejectHalf(t *testing.T, s string) {
	t.Helper()
	if h, ok := digest.ParseHalf(s); ok || h != (api.Half{}) {
		t.Errorf("ParseHalf(%q): %x %t", s, h, ok)
	}
}

// Promise 1.4: other lengths.
func TestParseOtherLengths(t *testing.T) {
	for n := range 140 {
		digits := strings.Repeat("5", n)
		rejectDigest(t, digits)
		if n != 64 {
			rejectDigest(t, "sha256:"+digits)
		}
		if n != 32 {
			rejectHalf(t, digits)
		}
	}
	text := digest.Format(digest.Sum(nil))
	half := text[7:39]
	for _, x := range []string{" ", "\n", "\x00", "0", "sha256:"} {
		rejectDigest(t, x+text)
		rejectDigest(t, text+x)
		rejectHalf(t, x+half)
		rejectHalf(t, half+x)
	}
}

// Promise 1.4: other prefixes.
func TestParseOtherPrefixes(t *testing.T) {
	digits := strings.Repeat("5", 64)
	prefixes := []string{"", "sha256", "sha256;", "SHA256:", "Sha256:", "sha512:", "sha-256:", "sha256: ", " sha256:", "sha256::", "sha256:sha256:", ":", "5555555"}
	for _, p := range prefixes {
		rejectDigest(t, p+digits)
		rejectDigest(t, digits+p)
	}
	for i := range 64 {
		rejectDigest(t, digits[:i]+"sha256:"+digits[i+1:])
	}
	rejectHalf(t, "sha256:"+digits[:32])
	rejectHalf(t, "sha256:"+digits[:25])
}

// Promise 1.4: upper-case digits, in whole and one by one.
func TestParseUpperCase(t *testing.T) {
	rejectDigest(t, "sha256:"+strings.Repeat("A", 64))
	rejectHalf(t, strings.Repeat("A", 32))
	digits := strings.Repeat("5", 64)
	for i := range 64 {
		for _, c := range "ABCDEF" {
			rejectDigest(t, "sha256:"+digits[:i]+string(c)+digits[i+1:])
			if i < 32 {
				rejectHalf(t, digits[:i]+string(c)+digits[i+1:32])
			}
		}
	}
}

// Promise 1.4: every byte at every place of an accepted text is either the text of another value, or is rejected.
func TestParseEveryByte(t *testing.T) {
	text := []byte(digest.Format(digest.Sum([]byte("abc"))))
	half := text[7:39]
	for i := range text {
		old := text[i]
		for c := range 256 {
			text[i] = byte(c)
			digit := strings.IndexByte("0123456789abcdef", byte(c)) >= 0
			good := digit && i >= 7 || byte(c) == old
			if d, ok := digest.Parse(string(text)); !good {
				rejectDigest(t, string(text))
			} else if !ok || digest.Format(d) != string(text) {
				t.Errorf("Parse(%q): %x %t", text, d, ok)
			}
			if i < 7 || i >= 39 {
				continue
			}
			if h, ok := digest.ParseHalf(string(half)); !good {
				rejectHalf(t, string(half))
			} else if !ok || digest.FormatHalf(h) != string(half) {
				t.Errorf("ParseHalf(%q): %x %t", half, h, ok)
			}
		}
		text[i] = old
	}
}

// Promise 1.4: characters of several bytes, and bytes that are no characters, in texts of the right length.
func TestParseOtherCharacters(t *testing.T) {
	for _, x := range []string{"é", "０", "٣", "\xff\xfe", "\x00", "0x", "+1", "-1", "_0", "1 ", "\t\n"} {
		digits := x + strings.Repeat("5", 64-len(x))
		rejectDigest(t, "sha256:"+digits)
		rejectDigest(t, "sha256:"+digits[len(x):]+x)
		rejectHalf(t, digits[:32])
		rejectHalf(t, digits[64-(32-len(x)):]+x)
	}
}

// Rule R4: neither the arguments nor the memory after them are modified.
func TestArgumentsStay(t *testing.T) {
	memory := sample(200)
	old := bytes.Clone(memory)
	parts := [][]byte{memory[10:20], memory[30:100], nil, memory[120:121], {7}}[:4]
	list := digests(20)
	oldList := slices.Clone(list)
	digest.Sum(memory[3:77])
	digest.Leaf(memory[5:70])
	digest.Half(parts)
	digest.Tree(list[2:13])
	if !bytes.Equal(memory, old) {
		t.Error("bytes were modified")
	}
	if !slices.Equal(list, oldList) {
		t.Error("digests were modified")
	}
	want := [][]byte{old[10:20], old[30:100], nil, old[120:121], {7}}
	if !slices.EqualFunc(parts[:5], want, bytes.Equal) {
		t.Error("parts were modified")
	}
}

// Rules R3 and R4: calls at the same time and one after the other have the same results.
func TestCallsAreIndependent(t *testing.T) {
	var group sync.WaitGroup
	for i := range 8 {
		group.Go(func() {
			for n := i; n < 400; n += 3 {
				b := sample(n)
				want := joined(b)
				if digest.Sum(b) != want {
					t.Errorf("Sum of %d bytes", n)
				}
				if h := digest.Half([][]byte{b}); !bytes.Equal(h[:], want[:16]) {
					t.Errorf("Half of %d bytes", n)
				}
				if d, ok := digest.Parse(digest.Format(want)); !ok || d != want {
					t.Errorf("Parse of %x", want)
				}
			}
		})
	}
	group.Wait()
}
