package onetime_test

import (
	"bytes"
	"crypto/sha256"
	"encoding/hex"
	"fmt"
	"math"
	"math/rand/v2"
	"slices"
	"strconv"
	"strings"
	"sync"
	"testing"

	"admission/api"
	"admission/onetime"
)

// hashed returns the first half of the digest that the standard library computes of the concatenation of parts.
func hashed(parts ...[]byte) api.Half {
	d := sha256.Sum256(bytes.Join(parts, nil))
	return api.Half(d[:16])
}

// low returns the least significant n bytes of x as two's complement has them, the most significant one first.
func low(x, n int) []byte {
	const digits = 16
	text := fmt.Sprintf("%0*x", digits, uint64(int64(x)))
	b, _ := hex.DecodeString(text[digits-2*n:])
	return b
}

// The model of the chapter, from its text and apart from the package.

func modelDigits(d api.Digest) []int {
	var text strings.Builder
	for _, x := range d[:16] {
		fmt.Fprintf(&text, "%04s", strconv.FormatInt(int64(x), 4))
	}
	sum := 0
	for _, c := range text.String() {
		sum += 3 - int(c-'0')
	}
	fmt.Fprintf(&text, "%04s", strconv.FormatInt(int64(sum), 4))
	var out []int
	for _, c := range text.String() {
		out = append(out, int(c-'0'))
	}
	return out
}

func modelSecret(seed api.Half, leaf, chain int) api.Half {
	return hashed([]byte{3}, seed[:], low(leaf, 2), low(chain, 1))
}

func modelStep(x api.Half, leaf, chain, position int) api.Half {
	return hashed([]byte{4}, x[:], low(leaf, 2), low(chain, 1), low(position, 1))
}

// modelValues returns the secret of a chain and what follows it after each of the three steps.
func modelValues(seed api.Half, leaf, chain int) [4]api.Half {
	v := [4]api.Half{modelSecret(seed, leaf, chain)}
	for p := range 3 {
		v[p+1] = modelStep(v[p], leaf, chain, p)
	}
	return v
}

func modelCombine(leaf int, ends []api.Half) api.Half {
	parts := [][]byte{{5}, low(leaf, 2)}
	for _, e := range ends {
		parts = append(parts, bytes.Clone(e[:]))
	}
	return hashed(parts...)
}

func modelPublic(seed api.Half, leaf int) api.Half {
	var ends []api.Half
	for chain := range 68 {
		ends = append(ends, modelValues(seed, leaf, chain)[3])
	}
	return modelCombine(leaf, ends)
}

func modelSign(seed api.Half, leaf int, d api.Digest) []api.Half {
	var sig []api.Half
	for chain, x := range modelDigits(d) {
		sig = append(sig, modelValues(seed, leaf, chain)[x])
	}
	return sig
}

func modelRecover(leaf int, d api.Digest, sig []api.Half) api.Half {
	var ends []api.Half
	for chain, x := range modelDigits(d) {
		end := sig[chain]
		for p := x; p < 3; p++ {
			end = modelStep(end, leaf, chain, p)
		}
		ends = append(ends, end)
	}
	return modelCombine(leaf, ends)
}

// half returns a half that depends on n.
func half(n int) api.Half { return hashed([]byte("half"), low(n, 8)) }

// halves returns n different halves.
func halves(n int) []api.Half {
	var out []api.Half
	for i := range n {
		out = append(out, half(i))
	}
	return out
}

// filled returns the Digest of bytes b.
func filled(b byte) api.Digest { return api.Digest(bytes.Repeat([]byte{b}, 32)) }

// randomDigest returns a Digest whose digits are chosen at random, each from those that are given.
func randomDigest(random *rand.Rand, from ...byte) api.Digest {
	var d api.Digest
	for i := range d {
		for range 4 {
			d[i] = d[i]<<2 | from[random.IntN(len(from))]
		}
	}
	return d
}

// samples returns digests of all sorts.
func samples() []api.Digest {
	l := []api.Digest{{}, filled(255), filled(0x55), filled(0xaa), filled(0x1b), filled(0xe4)}
	random := rand.New(rand.NewPCG(8, 1))
	for range 6 {
		l = append(l, randomDigest(random, 0, 1, 2, 3))
	}
	return append(l, randomDigest(random, 0, 0, 0, 1), randomDigest(random, 3, 3, 3, 2), randomDigest(random, 0, 3))
}

// numbers returns leaves and chains of which several have the same least significant bits.
func numbers() []int {
	return []int{
		0, 1, 2, 63, 67, 68, 127, 128, 255, 256, 257, 511, 512, 0x1234, 0x3412, 32767, 32768, 65535, 65536, 65537, 0x123456,
		math.MaxInt32, math.MaxInt, -1, -2, -255, -256, -257, -65535, -65536, -65537, math.MinInt32, math.MinInt,
	}
}

func checkDigits(t *testing.T, d api.Digest) {
	t.Helper()
	if got, want := onetime.Digits(d), modelDigits(d); !slices.Equal(got, want) {
		t.Fatalf("%x: %v, want %v", d, got, want)
	}
}

// Promise 8.1: the examples of the chapter, and one with different digits.
func TestDigitsOfKnownDigests(t *testing.T) {
	abc := sha256.Sum256([]byte("abc"))
	tests := []struct {
		name string
		d    api.Digest
		want string
	}{
		{"the zero Digest", api.Digest{}, strings.Repeat("0", 64) + "3000"},
		{"bytes 255", filled(255), strings.Repeat("3", 64) + "0000"},
		{"one bit less than bytes 255", api.Digest(append([]byte{254}, bytes.Repeat([]byte{255}, 31)...)), "3332" + strings.Repeat("3", 60) + "0001"},
		{"bytes 0x1b", filled(0x1b), strings.Repeat("0123", 16) + "1200"},
		{"the first byte", api.Digest{0: 0x6c}, "1230" + strings.Repeat("0", 60) + "2322"},
		{"the last byte that counts", api.Digest{15: 0x6c}, strings.Repeat("0", 60) + "1230" + "2322"},
		{"the first byte that does not count", api.Digest{16: 0x6c}, strings.Repeat("0", 64) + "3000"},
		{"the digest of abc", abc, "23221320011223332033000130333222100110011000313211312232020202031201"},
	}
	for _, x := range tests {
		var got strings.Builder
		for _, n := range onetime.Digits(x.d) {
			got.WriteString(strconv.Itoa(n))
		}
		if got.String() != x.want {
			t.Errorf("%s: %s, want %s", x.name, got.String(), x.want)
		}
	}
}

// Promise 8.1: each byte at each place.
func TestDigitsOfEveryByte(t *testing.T) {
	for i := range 32 {
		for b := range 256 {
			for _, d := range []api.Digest{{}, filled(255), filled(0x1b)} {
				d[i] = byte(b)
				checkDigits(t, d)
			}
		}
	}
}

// Promise 8.1: the number of digits and their values, for sums of all sizes.
func TestDigitsOfRandomDigests(t *testing.T) {
	random := rand.New(rand.NewPCG(8, 2))
	for _, from := range [][]byte{{0, 1, 2, 3}, {0, 0, 0, 1}, {3, 3, 3, 2}, {0, 3}, {1, 2}} {
		for range 500 {
			d := randomDigest(random, from...)
			checkDigits(t, d)
			got := onetime.Digits(d)
			if len(got) != api.Chains || slices.Min(got) < 0 || slices.Max(got) > 3 {
				t.Fatalf("%x: %v", d, got)
			}
		}
	}
}

// Promise 8.2: leaves and chains are reduced to their last 16 and 8 bits.
func TestSecret(t *testing.T) {
	for _, leaf := range numbers() {
		for _, chain := range numbers() {
			for _, seed := range []api.Half{{}, half(1)} {
				if got, want := onetime.Secret(seed, leaf, chain), modelSecret(seed, leaf, chain); got != want {
					t.Errorf("leaf %d, chain %d: %x, want %x", leaf, chain, got, want)
				}
			}
		}
	}
}

// Promise 8.2: each part of what is hashed counts.
func TestSecretsDiffer(t *testing.T) {
	seen := map[api.Half]string{}
	see := func(seed api.Half, leaf, chain int) {
		name := fmt.Sprintf("seed %x, leaf %d, chain %d", seed, leaf, chain)
		s := onetime.Secret(seed, leaf, chain)
		if seen[s] != "" {
			t.Errorf("%s: the secret of %s", name, seen[s])
		}
		seen[s] = name
	}
	for leaf := range 300 {
		for chain := range api.Chains {
			see(api.Half{}, leaf, chain)
		}
	}
	for bit := range 128 {
		var seed api.Half
		seed[bit/8] = 1 << (bit % 8)
		see(seed, 0, 0)
	}
}

// Promise 8.2: one step, at each position, of all sorts of leaves and chains.
func TestSteps(t *testing.T) {
	x := half(2)
	for _, leaf := range numbers() {
		for _, chain := range numbers() {
			for p := range 3 {
				if got, want := onetime.Climb(x, leaf, chain, p, p+1), modelStep(x, leaf, chain, p); got != want {
					t.Errorf("leaf %d, chain %d, position %d: %x, want %x", leaf, chain, p, got, want)
				}
			}
		}
	}
}

// Promise 8.2: from every position to every one, and where there are no steps.
func TestClimb(t *testing.T) {
	ends := []int{math.MinInt, math.MinInt + 1, -65536, -256, -3, -2, -1, 0, 1, 2, 3, 4, 5, 255, 256, 257, 65536, math.MaxInt - 1, math.MaxInt}
	for _, start := range []api.Half{{}, half(3)} {
		for _, from := range ends {
			for _, to := range ends {
				want := start
				if 0 <= from && from < to && to <= 3 {
					for p := from; p < to; p++ {
						want = modelStep(want, 9, 6, p)
					}
				}
				if got := onetime.Climb(start, 9, 6, from, to); got != want {
					t.Errorf("from %d to %d: %x, want %x", from, to, got, want)
				}
			}
		}
	}
}

// Promise 8.2: a climb in parts is the same climb.
func TestClimbInParts(t *testing.T) {
	for from := range 4 {
		for to := from; to <= 3; to++ {
			for between := from; between <= to; between++ {
				x := half(4)
				got := onetime.Climb(onetime.Climb(x, 7, 8, from, between), 7, 8, between, to)
				if want := onetime.Climb(x, 7, 8, from, to); got != want {
					t.Errorf("from %d by %d to %d: %x, want %x", from, between, to, got, want)
				}
			}
		}
	}
}

// Promise 8.2: the step of another leaf, chain or position is another one.
func TestStepsDiffer(t *testing.T) {
	x := half(5)
	seen := map[api.Half]bool{}
	for leaf := range 300 {
		for chain := range api.Chains {
			for p := range 3 {
				y := onetime.Climb(x, leaf, chain, p, p+1)
				if seen[y] {
					t.Errorf("leaf %d, chain %d, position %d: seen before", leaf, chain, p)
				}
				seen[y] = true
			}
		}
	}
}

// Promise 8.3: any number of ends, in order.
func TestCombine(t *testing.T) {
	for _, leaf := range numbers() {
		for _, n := range []int{0, 1, 2, 67, 68, 69} {
			if got, want := onetime.Combine(leaf, halves(n)), modelCombine(leaf, halves(n)); got != want {
				t.Errorf("leaf %d, %d ends: %x, want %x", leaf, n, got, want)
			}
		}
	}
	for n := range 300 {
		if got, want := onetime.Combine(258, halves(n)), modelCombine(258, halves(n)); got != want {
			t.Errorf("%d ends: %x, want %x", n, got, want)
		}
	}
	if onetime.Combine(1, nil) != onetime.Combine(1, []api.Half{}) {
		t.Error("a nil slice and an empty slice are different")
	}
	ends := halves(2)
	if onetime.Combine(1, ends) == onetime.Combine(1, []api.Half{ends[1], ends[0]}) {
		t.Error("the order does not matter")
	}
}

// known is a seed of the bytes 0 to 15.
func known() api.Half {
	var seed api.Half
	for i := range seed {
		seed[i] = byte(i)
	}
	return seed
}

// expectText checks a half against its hexadecimal digits.
func expectText(t *testing.T, name string, got api.Half, want string) {
	t.Helper()
	if text := hex.EncodeToString(got[:]); text != want {
		t.Errorf("%s: %s, want %s", name, text, want)
	}
}

// Promises 8.2 to 8.4: values that a program in another language has computed.
func TestKnownValues(t *testing.T) {
	const leaf = 0x0102
	expectText(t, "the first secret", onetime.Secret(known(), leaf, 0), "d74762ce63f68798d57dead9261cf20f")
	expectText(t, "the last secret", onetime.Secret(known(), leaf, 67), "b6a048ba6114dc21de7fce07f9c62993")
	expectText(t, "the public half", onetime.Public(known(), leaf), "ba549db7e2cc105c91a274ec70fa26ef")
	var all []byte
	for _, x := range onetime.Sign(known(), leaf, sha256.Sum256([]byte("abc"))) {
		all = append(all, x[:]...)
	}
	const want = "6da6bf96a5d81a844856243c704377602c01e6c6c96a62e9617541532b9a05d0"
	if got := sha256.Sum256(all); hex.EncodeToString(got[:]) != want {
		t.Errorf("the digest of a signature: %x, want %s", got, want)
	}
}

// Promise 8.3.
func TestPublic(t *testing.T) {
	for _, leaf := range numbers() {
		for _, seed := range []api.Half{{}, half(6), known()} {
			if got, want := onetime.Public(seed, leaf), modelPublic(seed, leaf); got != want {
				t.Errorf("seed %x, leaf %d: %x, want %x", seed, leaf, got, want)
			}
		}
	}
}

// Promise 8.4.
func TestSign(t *testing.T) {
	for _, leaf := range numbers() {
		for _, d := range samples() {
			if got, want := onetime.Sign(half(7), leaf, d), modelSign(half(7), leaf, d); !slices.Equal(got, want) {
				t.Errorf("leaf %d, digest %x: %x, want %x", leaf, d, got, want)
			}
		}
	}
}

// Promise 8.4: what is recovered from elements of any values.
func TestRecover(t *testing.T) {
	for _, leaf := range numbers() {
		for _, d := range samples() {
			for _, sig := range [][]api.Half{make([]api.Half, api.Chains), halves(api.Chains)} {
				got, ok := onetime.Recover(leaf, d, sig)
				if want := modelRecover(leaf, d, sig); !ok || got != want {
					t.Errorf("leaf %d, digest %x: %x %t, want %x", leaf, d, got, ok, want)
				}
			}
		}
	}
}

// Promise 8.4 and rule R2: other numbers of elements.
func TestRecoverOfOtherLengths(t *testing.T) {
	long := append(onetime.Sign(half(8), 1, api.Digest{}), halves(200)...)
	lists := [][]api.Half{nil, make([]api.Half, 1000)}
	for n := range long {
		lists = append(lists, long[:n])
	}
	for _, sig := range lists {
		got, ok := onetime.Recover(1, api.Digest{}, sig)
		if ok != (len(sig) == api.Chains) {
			t.Errorf("%d elements: %t", len(sig), ok)
		}
		if !ok && got != (api.Half{}) {
			t.Errorf("%d elements: %x", len(sig), got)
		}
	}
}

// expectPublic checks whether the public half of leaf is recovered.
func expectPublic(t *testing.T, name string, public api.Half, leaf int, d api.Digest, sig []api.Half, want bool) {
	t.Helper()
	if got, ok := onetime.Recover(leaf, d, sig); !ok || (got == public) != want {
		t.Errorf("%s: %x %t, public half %x", name, got, ok, public)
	}
}

// Promise 8.5: Recover of Sign is Public.
func TestRecoverOfSign(t *testing.T) {
	for _, seed := range []api.Half{{}, half(9), known()} {
		for _, leaf := range []int{0, 1, 63, 255, 256, 65535, 65536, -1, math.MinInt, math.MaxInt} {
			public := onetime.Public(seed, leaf)
			for _, d := range samples() {
				name := fmt.Sprintf("seed %x, leaf %d, digest %x", seed, leaf, d)
				expectPublic(t, name, public, leaf, d, onetime.Sign(seed, leaf, d), true)
			}
		}
	}
}

// Promise 8.5: a signature belongs to one seed, one leaf and the first half of one digest.
func TestSignatureOfAnother(t *testing.T) {
	seed := half(10)
	for leaf := range 3 {
		public := onetime.Public(seed, leaf)
		for i, d := range samples() {
			sig := onetime.Sign(seed, leaf, d)
			expectPublic(t, "another seed", onetime.Public(half(11), leaf), leaf, d, sig, false)
			expectPublic(t, "another leaf", onetime.Public(seed, leaf+1), leaf+1, d, sig, false)
			expectPublic(t, "another leaf's number", public, leaf+1, d, sig, false)
			other := d
			other[16+i] ^= 1
			expectPublic(t, "another second half", public, leaf, other, sig, true)
			other[i] ^= 1
			expectPublic(t, "another first half", public, leaf, other, sig, false)
		}
	}
}

// Promise 8.5: every element counts, wherever its chain has got.
func TestChangedSignature(t *testing.T) {
	seed, d := half(12), filled(0x1b)
	public := onetime.Public(seed, 5)
	for chain := range api.Chains {
		sig := onetime.Sign(seed, 5, d)
		sig[chain][chain%16] ^= 1 << (chain % 8)
		expectPublic(t, fmt.Sprintf("chain %d", chain), public, 5, d, sig, false)
		sig = onetime.Sign(seed, 5, d)
		other := (chain + 1) % api.Chains
		sig[chain], sig[other] = sig[other], sig[chain]
		expectPublic(t, fmt.Sprintf("chains %d and %d exchanged", chain, other), public, 5, d, sig, false)
	}
}

// greater reports whether a digit of a is greater than that of b in the same chain.
func greater(a, b []int) bool {
	for chain := range a {
		if a[chain] > b[chain] {
			return true
		}
	}
	return false
}

// expectApart checks that neither digest has all digits at least as great as the other one.
func expectApart(t *testing.T, d, e api.Digest) {
	t.Helper()
	a, b := onetime.Digits(d), onetime.Digits(e)
	if !greater(a, b) || !greater(b, a) {
		t.Fatalf("%x and %x: digits %v and %v", d, e, a, b)
	}
}

// Promise 8.5: two digests of which one has only greater digits, and others that differ little.
func TestDigitsApart(t *testing.T) {
	random := rand.New(rand.NewPCG(8, 3))
	for range 300 {
		d := randomDigest(random, 0, 1, 2, 3)
		for i := range 16 {
			for bit := range 8 {
				e := d
				e[i] ^= 1 << bit
				expectApart(t, d, e)
			}
		}
		up := d
		for i := range up {
			up[i] |= byte(random.Uint32())
		}
		if api.Half(up[:16]) != api.Half(d[:16]) {
			expectApart(t, d, up)
		}
		expectApart(t, d, randomDigest(random, 0, 1, 2, 3))
	}
	l := samples()
	for i, d := range l {
		for _, e := range l[:i] {
			expectApart(t, d, e)
		}
	}
}

// Promise 8.5: sums of digits that are next to each other, with every number of steps down from the greatest digits.
func TestDigitsApartAtEverySum(t *testing.T) {
	d := filled(255)
	for i := range 16 {
		for b := 254; b >= 0; b-- {
			e := d
			e[i] = byte(b)
			expectApart(t, d, e)
		}
		d[i] = 0
		for b := 1; b < 256; b++ {
			e := d
			e[i] = byte(b)
			expectApart(t, d, e)
		}
	}
}

// Promise 8.5: who climbs the chains of a signature as far as another digest's digits does not arrive.
func TestClimbedSignature(t *testing.T) {
	seed := half(13)
	public := onetime.Public(seed, 6)
	l := samples()
	for i, d := range l {
		digits := onetime.Digits(d)
		for j, e := range l {
			sig := onetime.Sign(seed, 6, d)
			for chain, x := range onetime.Digits(e) {
				sig[chain] = onetime.Climb(sig[chain], 6, chain, digits[chain], x)
			}
			expectPublic(t, fmt.Sprintf("%x for %x", d, e), public, 6, e, sig, i == j)
		}
	}
}

// Rule R4: neither the arguments nor the memory after them are modified.
func TestArgumentsStay(t *testing.T) {
	memory := halves(2 * api.Chains)
	onetime.Combine(1, memory[3:40])
	onetime.Recover(1, filled(0x1b), memory[10:10+api.Chains])
	onetime.Recover(1, filled(0x1b), memory[10:20])
	if !slices.Equal(memory, halves(2*api.Chains)) {
		t.Error("halves were modified")
	}
}

// Rules R3 and R4: results are new memory, and nothing is kept between calls.
func TestResultsAreNew(t *testing.T) {
	d := filled(0x1b)
	digits, sig := onetime.Digits(d), onetime.Sign(half(14), 2, d)
	clear(digits)
	clear(sig)
	checkDigits(t, d)
	if got := onetime.Sign(half(14), 2, d); !slices.Equal(got, modelSign(half(14), 2, d)) {
		t.Errorf("%x", got)
	}
}

// Rule R3: calls at the same time have the same results.
func TestCallsAreIndependent(t *testing.T) {
	var group sync.WaitGroup
	for i := range 8 {
		group.Go(func() {
			seed := half(15 + i)
			for _, d := range samples() {
				sig := onetime.Sign(seed, i, d)
				if !slices.Equal(sig, modelSign(seed, i, d)) {
					t.Errorf("leaf %d, digest %x: %x", i, d, sig)
				}
				expectPublic(t, "at the same time", modelPublic(seed, i), i, d, sig, true)
			}
		})
	}
	group.Wait()
}
