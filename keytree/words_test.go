package keytree_test

import (
	"encoding/hex"
	"fmt"
	"math"
	"slices"
	"strconv"
	"strings"
	"testing"

	"admission/api"
	"admission/keytree"
)

// modelWords returns the words of a signature as the chapter describes them.
func modelWords(sig api.Signature) []string {
	words := []string{fmt.Sprint(sig.Leaf)}
	for _, h := range sig.Chain {
		words = append(words, fmt.Sprintf("%x", h[:]))
	}
	for _, h := range sig.Path {
		words = append(words, hex.EncodeToString(h[:]))
	}
	return words
}

// goodWords returns the words of a signature with n elements of a path.
func goodWords(n int) []string { return modelWords(anySignature(12, api.Chains, n)) }

// rejectWords checks that Read returns false for words.
func rejectWords(t *testing.T, name string, words []string) {
	t.Helper()
	if sig, ok := keytree.Read(words); ok || !zero(sig) {
		t.Errorf("%s: %v %t", name, sig, ok)
	}
}

// Promise 9.5: leaves and numbers of elements of all sizes, also those of no key.
func TestWords(t *testing.T) {
	for _, leaf := range numbers() {
		for _, chain := range []int{0, 1, 67, 68, 69, 200} {
			for _, path := range []int{0, 1, 2, 6, 7, 100} {
				sig := anySignature(leaf, chain, path)
				if got, want := keytree.Words(sig), modelWords(sig); !slices.Equal(got, want) {
					t.Errorf("leaf %d, %d and %d elements: %q, want %q", leaf, chain, path, got, want)
				}
			}
		}
	}
	if got := keytree.Words(api.Signature{}); !slices.Equal(got, []string{"0"}) {
		t.Errorf("the zero signature: %q", got)
	}
}

// Promise 9.5: Read of Words, and Words of Read.
func TestReadOfWords(t *testing.T) {
	for _, leaf := range []int{0, 1, 9, 10, 63, 64, 255, 256, 9999, 10000, 65534, 65535} {
		for path := range api.MaxHeight + 1 {
			want := anySignature(leaf, api.Chains, path)
			words := modelWords(want)
			sig, ok := keytree.Read(words)
			if !ok || !equal(sig, want) {
				t.Errorf("leaf %d, path of %d elements: %v %t, want %v", leaf, path, sig, ok, want)
			}
			if again := keytree.Words(sig); !slices.Equal(again, words) {
				t.Errorf("leaf %d, path of %d elements: %q, want %q", leaf, path, again, words)
			}
		}
	}
}

// Promise 9.5: each leaf that can be read, and those beyond.
func TestReadLeaf(t *testing.T) {
	words := goodWords(0)
	for leaf := -300; leaf < 66000; leaf++ {
		words[0] = strconv.Itoa(leaf)
		sig, ok := keytree.Read(words)
		if want := 0 <= leaf && leaf <= 65535; ok != want {
			t.Errorf("leaf %d: %t", leaf, ok)
		} else if ok && sig.Leaf != leaf || !ok && !zero(sig) {
			t.Errorf("leaf %d: %v", leaf, sig)
		}
	}
	for _, leaf := range numbers() {
		words[0] = strconv.Itoa(leaf)
		if leaf < 0 || leaf > 65535 {
			rejectWords(t, words[0], words)
		}
	}
}

// Promise 9.5: first words that are no number's decimal form.
func TestReadOfOtherLeaves(t *testing.T) {
	words := goodWords(3)
	for _, leaf := range []string{
		"", "~", " ", "-", "+", "00", "01", "007", "-0", "+1", "-1", "1 ", " 1", "1.0", "1e3", "0x1", "1_0", "a", "f", "one", "\x00", "1\n",
		"65536", "99999", "100000", "1099511627776", "1099511627777", "4294967296", "18446744073709551616", "18446744073709551617",
		strings.Repeat("9", 1000), strings.Repeat("0", 32), words[1],
	} {
		words[0] = leaf
		rejectWords(t, fmt.Sprintf("leaf %.40q", leaf), words)
	}
}

// Promise 9.5: every number of words.
func TestReadOfLengths(t *testing.T) {
	long := goodWords(200)
	rejectWords(t, "nil", nil)
	for n := range long {
		words := long[:n]
		if n < 69 || n > 75 {
			rejectWords(t, fmt.Sprintf("%d words", n), words)
			continue
		}
		sig, ok := keytree.Read(words)
		if want := anySignature(12, 68, n-69); !ok || !equal(sig, want) {
			t.Errorf("%d words: %v %t, want %v", n, sig, ok, want)
		}
	}
}

// Promise 9.5: a word that is no half, at each place.
func TestReadOfOtherHalves(t *testing.T) {
	digits := strings.Repeat("0123456789abcdef", 2)
	others := []string{
		"", "0", "12", digits[1:], digits + "0", digits + digits, strings.ToUpper(digits), digits[:31] + "A", digits[:31] + "g", "G" + digits[1:],
		digits[:31] + " ", " " + digits[1:], " " + digits, digits + "\n", "0x" + digits[2:], "sha256:" + digits, digits[:30] + "é", "+" + digits[1:],
	}
	for path := range api.MaxHeight + 1 {
		for i := 1; i < 69+path; i++ {
			words := goodWords(path)
			words[i] = digits
			sig, ok := keytree.Read(words)
			if !ok || !slices.Equal(modelWords(sig), words) {
				t.Errorf("word %d of %d: %v %t", i, len(words), sig, ok)
			}
			for _, w := range others {
				words[i] = w
				rejectWords(t, fmt.Sprintf("word %d of %d is %q", i, len(words), w), words)
			}
		}
	}
}

// Promise 9.5: what was signed is verified after it was written and read.
func TestVerifyOfRead(t *testing.T) {
	for height := range api.MaxHeight + 1 {
		seed, leaf, d := half(80), 1<<height-1, message(height)
		p, _ := keytree.New(seed, height)
		_, sig, _ := keytree.Sign(api.Signer{Seed: seed, Height: height, Next: leaf}, d)
		read, ok := keytree.Read(keytree.Words(sig))
		if !ok {
			t.Errorf("height %d: not read", height)
		}
		expectVerified(t, "read", p, d, read, true)
	}
}

// The rule of the language that the parts of a result share no memory: who appends to one of them does not write to the other one.
func TestReadSharesNoMemory(t *testing.T) {
	words := goodWords(6)
	sig, _ := keytree.Read(words)
	for range 7 {
		sig.Chain = append(sig.Chain, half(math.MaxInt))
	}
	if want := anySignature(12, api.Chains, 6); !slices.Equal(sig.Path, want.Path) {
		t.Errorf("%v, want %v", sig.Path, want.Path)
	}
	clear(sig.Chain)
	if again, ok := keytree.Read(words); !ok || !equal(again, anySignature(12, api.Chains, 6)) {
		t.Errorf("%v %t", again, ok)
	}
}
