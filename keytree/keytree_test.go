package keytree_test

import (
	"bytes"
	"crypto/sha256"
	"encoding/hex"
	"fmt"
	"math"
	"slices"
	"strings"
	"sync"
	"testing"

	"admission/api"
	"admission/keytree"
	"admission/onetime"
)

// hashed returns the digest that the standard library computes of the concatenation of parts.
func hashed(parts ...[]byte) api.Digest { return sha256.Sum256(bytes.Join(parts, nil)) }

// low returns the least significant n bytes of x as two's complement has them, the most significant one first.
func low(x, n int) []byte {
	const digits = 16
	text := fmt.Sprintf("%0*x", digits, uint64(int64(x)))
	b, _ := hex.DecodeString(text[digits-2*n:])
	return b
}

// The model of the chapter, from its text and apart from the package.

func modelID(p api.PublicKey) api.Digest { return hashed([]byte{7}, low(p.Height, 1), p.Root[:]) }

func modelJoin(level, index int, a, b api.Half) api.Half {
	d := hashed([]byte{6}, low(level, 1), low(index, 2), a[:], b[:])
	return api.Half(d[:16])
}

// modelNode returns node i of a level of the tree of a seed.
func modelNode(seed api.Half, level, i int) api.Half {
	if level == 0 {
		return onetime.Public(seed, i)
	}
	return modelJoin(level-1, i, modelNode(seed, level-1, 2*i), modelNode(seed, level-1, 2*i+1))
}

func modelKey(seed api.Half, height int) api.PublicKey {
	return api.PublicKey{Height: height, Root: modelNode(seed, height, 0)}
}

func modelSignature(s api.Signer, d api.Digest) api.Signature {
	sig := api.Signature{Leaf: s.Next, Chain: onetime.Sign(s.Seed, s.Next, d)}
	power := 1
	for k := range s.Height {
		i := s.Next / power
		neighbour := i + 1
		if i%2 == 1 {
			neighbour = i - 1
		}
		sig.Path = append(sig.Path, modelNode(s.Seed, k, neighbour))
		power *= 2
	}
	return sig
}

// modelRoot returns the root to which a signature leads.
func modelRoot(d api.Digest, sig api.Signature) api.Half {
	node, _ := onetime.Recover(sig.Leaf, d, sig.Chain)
	i := sig.Leaf
	for k, neighbour := range sig.Path {
		if i%2 == 0 {
			node = modelJoin(k, i/2, node, neighbour)
		} else {
			node = modelJoin(k, i/2, neighbour, node)
		}
		i /= 2
	}
	return node
}

// half returns a half that depends on n.
func half(n int) api.Half {
	d := message(n)
	return api.Half(d[16:])
}

// message returns a digest that depends on n.
func message(n int) api.Digest { return hashed([]byte("message"), low(n, 8)) }

// halves returns n different halves, of which the first one is half(from).
func halves(from, n int) []api.Half {
	var out []api.Half
	for i := range n {
		out = append(out, half(from+i))
	}
	return out
}

// anySignature returns a signature of any elements.
func anySignature(leaf, chain, path int) api.Signature {
	return api.Signature{Leaf: leaf, Chain: halves(0, chain), Path: halves(1000, path)}
}

// clone returns a signature that shares no memory with sig.
func clone(sig api.Signature) api.Signature {
	return api.Signature{Leaf: sig.Leaf, Chain: slices.Clone(sig.Chain), Path: slices.Clone(sig.Path)}
}

// equal reports whether two signatures are equal.
func equal(a, b api.Signature) bool {
	return a.Leaf == b.Leaf && slices.Equal(a.Chain, b.Chain) && slices.Equal(a.Path, b.Path)
}

// zero reports whether sig is the zero value.
func zero(sig api.Signature) bool { return equal(sig, api.Signature{}) }

// numbers returns heights, levels and indexes of which several have the same least significant bits.
func numbers() []int {
	return []int{
		0, 1, 2, 3, 5, 6, 7, 8, 63, 64, 127, 128, 255, 256, 257, 262, 511, 512, 0x1234, 0x3412, 32767, 32768, 65535, 65536, 65537, 0x123456,
		math.MaxInt32, math.MaxInt, -1, -2, -6, -255, -256, -257, -65535, -65536, -65537, math.MinInt32, math.MinInt,
	}
}

// known is a seed of the bytes 0 to 15.
func known() api.Half {
	var seed api.Half
	for i := range seed {
		seed[i] = byte(i)
	}
	return seed
}

// expectText checks bytes against their hexadecimal digits.
func expectText(t *testing.T, name string, got []byte, want string) {
	t.Helper()
	if text := hex.EncodeToString(got); text != want {
		t.Errorf("%s: %s, want %s", name, text, want)
	}
}

// expectVerified checks whether Verify accepts sig.
func expectVerified(t *testing.T, name string, p api.PublicKey, d api.Digest, sig api.Signature, want bool) {
	t.Helper()
	if got := keytree.Verify(p, d, sig); got != want {
		t.Errorf("%s: height %d, leaf %d: %t, want %t", name, p.Height, sig.Leaf, got, want)
	}
}

// Promise 9.1: only the Height counts.
func TestValid(t *testing.T) {
	for _, height := range append(numbers(), 4, -3, -64, 70) {
		want := slices.Contains([]int{0, 1, 2, 3, 4, 5, 6}, height)
		for _, root := range []api.Half{{}, half(1)} {
			if got := keytree.Valid(api.PublicKey{Height: height, Root: root}); got != want {
				t.Errorf("height %d: %t", height, got)
			}
		}
	}
}

// Promise 9.1: keys of all heights have an ID, also those that are not valid.
func TestID(t *testing.T) {
	for _, height := range numbers() {
		for _, root := range []api.Half{{}, half(1), known()} {
			p := api.PublicKey{Height: height, Root: root}
			if got, want := keytree.ID(p), modelID(p); got != want {
				t.Errorf("%v: %x, want %x", p, got, want)
			}
		}
	}
}

// Promise 9.1: each byte of the Height and each bit of Root counts.
func TestIDsDiffer(t *testing.T) {
	seen := map[api.Digest]bool{}
	see := func(p api.PublicKey) {
		id := keytree.ID(p)
		if seen[id] {
			t.Errorf("%v: seen before", p)
		}
		seen[id] = true
	}
	for height := range 256 {
		see(api.PublicKey{Height: height, Root: half(2)})
	}
	for bit := range 128 {
		root := half(2)
		root[bit/8] ^= 1 << (bit % 8)
		see(api.PublicKey{Root: root})
	}
}

// Promise 9.2: levels and indexes are reduced to their last 8 and 16 bits, and a comes before b.
func TestJoin(t *testing.T) {
	pairs := [][2]api.Half{{}, {half(1), half(2)}, {half(2), half(1)}, {half(1), half(1)}, {{}, known()}}
	for _, level := range numbers() {
		for _, index := range numbers() {
			for _, x := range pairs {
				if got, want := keytree.Join(level, index, x[0], x[1]), modelJoin(level, index, x[0], x[1]); got != want {
					t.Errorf("level %d, index %d: %x, want %x", level, index, got, want)
				}
			}
		}
	}
}

// Promise 9.2: the node of another level, another index or other nodes is another one.
func TestNodesDiffer(t *testing.T) {
	a, b := half(3), half(4)
	seen := map[api.Half]string{}
	see := func(name string, x api.Half) {
		if seen[x] != "" {
			t.Errorf("%s: the node of %s", name, seen[x])
		}
		seen[x] = name
	}
	for level := range 256 {
		for index := range 300 {
			see(fmt.Sprintf("level %d, index %d", level, index), keytree.Join(level, index, a, b))
		}
	}
	see("a and b exchanged", keytree.Join(0, 0, b, a))
	for bit := range 128 {
		x, y := a, b
		x[bit/8] ^= 1 << (bit % 8)
		y[bit/8] ^= 1 << (bit % 8)
		see(fmt.Sprintf("bit %d of a", bit), keytree.Join(0, 0, x, b))
		see(fmt.Sprintf("bit %d of b", bit), keytree.Join(0, 0, a, y))
	}
}

// Promise 9.2: trees of every height.
func TestNew(t *testing.T) {
	for height := range api.MaxHeight + 1 {
		for _, seed := range []api.Half{{}, half(5), known()} {
			p, e := keytree.New(seed, height)
			if want := modelKey(seed, height); e != api.OK || p != want || !keytree.Valid(p) {
				t.Errorf("height %d: %v %d, want %v", height, p, e, want)
			}
		}
	}
}

// Promise 9.2 and rule R2: heights of no tree.
func TestNewErrors(t *testing.T) {
	for _, height := range numbers() {
		if 0 <= height && height <= 6 {
			continue
		}
		if p, e := keytree.New(half(6), height); e != api.ErrInvalid || p != (api.PublicKey{}) {
			t.Errorf("height %d: %v %d", height, p, e)
		}
	}
}

// Promises 9.1 to 9.3 and 9.5: values that a program in another language has computed.
func TestKnownValues(t *testing.T) {
	keys := []struct{ root, id string }{
		{"a295bc87fdd4bb5bce881a9d45499b3a", "da766bdc0cd4d7fdc6697c259da0d320a6a0a6b1b0991b12211fd8aaabf1cc31"},
		{"93256015595ec565c3886185cd95f37e", "ebae69aba186c5ebb9a04ce682f589333a66fa5b08175afe5edf07f068a5de79"},
		{"a9988076013ed3092ba96fb2c73db1e5", "080029dbcde6b87f4662b20aaad3852bc61cfbb142609664fcc5d23b3b56e23b"},
		{"091c3d44bbcb9663edb7b2fbb482bc46", "3babed2373aecab2ffe38fc9caba5d90525e76bbeec0b190f3481c89c3aa8fed"},
		{"f83cdb1d0cfd64dc49cc49589411bd27", "e014a58360241a9249febc9fb53a524a86c4f37f5fcd2791bd636e930d4fb9be"},
		{"d12a07960d85b638547e205d0aa9e7b0", "3718a23c1f5b30dd41527c958f8ce841319bed72a3f91c591676a86041e9b63f"},
		{"bfd8721e817b8a02fc9fe685bf7788bf", "34505b162a93efc6bf4fb7861da0c4916546e6ad36f6ea519528c56bcc7d5bff"},
	}
	for height, x := range keys {
		p, _ := keytree.New(known(), height)
		id := keytree.ID(p)
		expectText(t, fmt.Sprintf("the root of height %d", height), p.Root[:], x.root)
		expectText(t, fmt.Sprintf("the ID of height %d", height), id[:], x.id)
	}
	b := known()
	for i := range b {
		b[i] += 16
	}
	node := keytree.Join(0x0102, 0x030405, known(), b)
	expectText(t, "a node", node[:], "4875429f3f36dc8b545ed5c14a1cf2d7")

	_, sig, _ := keytree.Sign(api.Signer{Seed: known(), Height: 6, Next: 37}, hashed([]byte("abc")))
	words := keytree.Words(sig)
	want := []string{
		"4ea3fc20f00c40107641af766ad9c801", "431435f7bb9c6db38b2a9a210a3634f4", "b09d325eaa7234e4835132e50ddd1003",
		"19429a7af3d6f7a7b8c5d110456b9983", "f570e0820cf879ab4a3256aa0f48666f", "d12a07960d85b638547e205d0aa9e7b0",
	}
	if len(words) != 75 || words[0] != "37" || words[1] != "2f2333d9d4d8f24509824c0f463397e6" || !slices.Equal(words[69:], want) {
		t.Errorf("the words of a signature: %q", words)
	}
	all := hashed([]byte(strings.Join(words, " ")))
	expectText(t, "the digest of these words", all[:], "f7724c4c9560db0c5f56b6636890fe5af960bc4b212177f8ec0c817b29eca5ba")
}

// Promise 9.3: every leaf of trees of every height.
func TestSign(t *testing.T) {
	for height := range api.MaxHeight + 1 {
		seed := half(10 + height)
		for leaf := range 1 << height {
			s := api.Signer{Seed: seed, Height: height, Next: leaf}
			d := message(leaf)
			next, sig, e := keytree.Sign(s, d)
			if e != api.OK || next != (api.Signer{Seed: seed, Height: height, Next: leaf + 1}) {
				t.Errorf("height %d, leaf %d: %v %d", height, leaf, next, e)
			}
			if want := modelSignature(s, d); !equal(sig, want) {
				t.Errorf("height %d, leaf %d: %v, want %v", height, leaf, sig, want)
			}
		}
	}
}

// Promise 9.3: the example of the chapter of a tree that is one leaf.
func TestPathOfHeightZero(t *testing.T) {
	_, sig, e := keytree.Sign(api.Signer{Seed: half(20)}, message(1))
	if e != api.OK || len(sig.Path) != 0 || len(sig.Chain) != api.Chains {
		t.Errorf("%v %d", sig, e)
	}
}

// Promise 9.3 and rule R2: which error is returned, with heights and numbers of every size.
func TestSignErrors(t *testing.T) {
	heights := append(numbers(), 4, 60, 61, 62)
	nexts := append(numbers(), 4, 9, 16, 31, 32, 33, 65)
	for _, height := range heights {
		for _, next := range nexts {
			var want api.Errno
			switch {
			case height < 0 || height > 6 || next < 0:
				want = api.ErrInvalid
			case float64(next) >= math.Pow(2, float64(height)):
				want = api.ErrExhausted
			default:
				continue
			}
			s, sig, e := keytree.Sign(api.Signer{Seed: half(21), Height: height, Next: next}, message(2))
			if e != want || s != (api.Signer{}) || !zero(sig) {
				t.Errorf("height %d, next %d: %v %v %d, want %d", height, next, s, sig, e, want)
			}
		}
	}
}

// Promise 9.4: each limit reached and passed by one.
func TestShaped(t *testing.T) {
	for _, height := range []int{math.MinInt, -1, 0, 1, 2, 5, 6, 7, 8, 64, 65, math.MaxInt} {
		for _, leaf := range []int{math.MinInt, -64, -2, -1, 0, 1, 2, 3, 4, 31, 32, 63, 64, 65, 127, 128, 65536, math.MaxInt} {
			for _, chain := range []int{0, 1, 67, 68, 69, 136} {
				for _, path := range []int{0, 1, 2, 3, 5, 6, 7, 8, 64} {
					p := api.PublicKey{Height: height, Root: half(22)}
					sig := anySignature(leaf, chain, path)
					want := 0 <= height && height <= 6 && 0 <= leaf && float64(leaf) < math.Pow(2, float64(height)) && chain == 68 && path == height
					if got := keytree.Shaped(p, sig); got != want {
						t.Errorf("height %d, leaf %d, %d and %d elements: %t", height, leaf, chain, path, got)
					}
					if keytree.Verify(p, message(3), sig) {
						t.Errorf("height %d, leaf %d, %d and %d elements: verified", height, leaf, chain, path)
					}
				}
			}
		}
	}
}

// Promise 9.4: a signature of any elements is one of the key to whose root it leads, and of no other one.
func TestVerifyOfAnyElements(t *testing.T) {
	for height := range api.MaxHeight + 1 {
		for leaf := range 1 << height {
			for _, sig := range []api.Signature{
				anySignature(leaf, api.Chains, height),
				{Leaf: leaf, Chain: make([]api.Half, api.Chains), Path: make([]api.Half, height)},
			} {
				d := message(leaf)
				p := api.PublicKey{Height: height, Root: modelRoot(d, sig)}
				expectVerified(t, "any elements", p, d, sig, true)
				p.Root[leaf%16] ^= 1 << height
				expectVerified(t, "another root", p, d, sig, false)
				p.Root = api.Half{}
				expectVerified(t, "no root", p, d, sig, false)
			}
		}
	}
}

// Promise 9.4: what leads to the root is no signature of a key that it is not shaped for.
func TestVerifyOfOtherShapes(t *testing.T) {
	d := message(4)
	for height := range api.MaxHeight + 2 {
		for path := range api.MaxHeight + 3 {
			for _, leaf := range []int{0, 1, 2, 3, 1<<height - 1, 1 << height, 1<<height + 1, 65536} {
				sig := anySignature(leaf, api.Chains, path)
				p := api.PublicKey{Height: height, Root: modelRoot(d, sig)}
				want := height <= 6 && path == height && leaf < 1<<height
				expectVerified(t, fmt.Sprintf("%d elements", path), p, d, sig, want)
			}
		}
	}
	expectVerified(t, "a key that is not valid", api.PublicKey{Height: -1}, d, anySignature(0, api.Chains, 0), false)
}

// Promise 9.4: each part of a signature counts, and the digest, and the key.
func TestVerifyOfChanges(t *testing.T) {
	for height := range 4 {
		seed := half(30 + height)
		p := modelKey(seed, height)
		for leaf := range 1 << height {
			d := message(leaf)
			sig := modelSignature(api.Signer{Seed: seed, Height: height, Next: leaf}, d)
			expectVerified(t, "the signature", p, d, sig, true)
			for i := range api.Chains {
				x := clone(sig)
				x.Chain[i][i%16] ^= 1 << (i % 8)
				expectVerified(t, fmt.Sprintf("element %d of the chain", i), p, d, x, false)
			}
			for k := range height {
				x := clone(sig)
				x.Path[k][leaf%16] ^= 1 << k
				expectVerified(t, fmt.Sprintf("element %d of the path", k), p, d, x, false)
				x.Path[k], x.Path[0] = sig.Path[0], sig.Path[k]
				expectVerified(t, fmt.Sprintf("elements 0 and %d of the path exchanged", k), p, d, x, k == 0)
			}
			for other := range 1 << height {
				x := clone(sig)
				x.Leaf = other
				expectVerified(t, fmt.Sprintf("leaf %d", other), p, d, x, other == leaf)
			}
			expectVerified(t, "another digest", p, message(leaf+1), sig, false)
			expectVerified(t, "another key", modelKey(half(40), height), d, sig, false)
		}
	}
}

// Promise 9.4: the way to a node below the root, or beyond the root, is no signature.
func TestVerifyOfOtherWays(t *testing.T) {
	seed, d := half(41), message(5)
	for height := 1; height <= api.MaxHeight; height++ {
		sig := modelSignature(api.Signer{Seed: seed, Height: height}, d)
		p := modelKey(seed, height)
		short := clone(sig)
		short.Path = short.Path[:height-1]
		expectVerified(t, "too short a path", p, d, short, false)
		expectVerified(t, "the way to the node below", modelKey(seed, height-1), d, short, true)
		expectVerified(t, "too long a path", modelKey(seed, height-1), d, sig, false)
		expectVerified(t, "another height", api.PublicKey{Height: height - 1, Root: p.Root}, d, sig, false)
		expectVerified(t, "another height", api.PublicKey{Height: height + 1, Root: p.Root}, d, sig, false)
	}
}

// Promise 9.6: a signer goes from leaf to leaf until none is left, whatever it signs, and its key verifies all of it.
func TestSignersUseLeavesOnce(t *testing.T) {
	for height := range api.MaxHeight + 1 {
		seed := half(50 + height)
		p, _ := keytree.New(seed, height)
		s := api.Signer{Seed: seed, Height: height}
		used := map[int]bool{}
		for n := range 1 << height {
			d := message(n / 3)
			next, sig, e := keytree.Sign(s, d)
			if e != api.OK || used[sig.Leaf] || !keytree.Shaped(p, sig) {
				t.Fatalf("height %d, signature %d: leaf %d, %d", height, n, sig.Leaf, e)
			}
			expectVerified(t, "what was signed", p, d, sig, true)
			expectVerified(t, "what was not signed", p, message(-1), sig, false)
			used[sig.Leaf] = true
			s = next
		}
		for range 3 {
			if _, sig, e := keytree.Sign(s, message(1)); e != api.ErrExhausted || !zero(sig) {
				t.Errorf("height %d: %v %d after the last leaf", height, sig, e)
			}
		}
	}
}

// Promise 9.6: digests of all sorts.
func TestVerifyOfSign(t *testing.T) {
	p, _ := keytree.New(half(60), 2)
	for _, b := range []byte{0, 1, 0x1b, 0x55, 0x80, 0xaa, 0xe4, 255} {
		d := api.Digest(bytes.Repeat([]byte{b}, 32))
		_, sig, e := keytree.Sign(api.Signer{Seed: half(60), Height: 2, Next: int(b % 4)}, d)
		if e != api.OK {
			t.Errorf("bytes %d: %d", b, e)
		}
		expectVerified(t, fmt.Sprintf("bytes %d", b), p, d, sig, true)
	}
}

// Rule R4: neither the arguments nor the memory after them are modified.
func TestArgumentsStay(t *testing.T) {
	memory := halves(0, 300)
	sig := api.Signature{Leaf: 5, Chain: memory[10 : 10+api.Chains], Path: memory[200:206]}
	keytree.Verify(api.PublicKey{Height: 6}, message(6), sig)
	keytree.Shaped(api.PublicKey{Height: 6}, sig)
	keytree.Words(sig)
	words := slices.Repeat([]string{strings.Repeat("0", 32)}, 100)
	words[0] = "7"
	before := slices.Clone(words)
	keytree.Read(words[:73])
	if !slices.Equal(memory, halves(0, 300)) || !slices.Equal(words, before) {
		t.Error("an argument was modified")
	}
}

// Rules R3 and R4: results are new memory, and nothing is kept between calls.
func TestResultsAreNew(t *testing.T) {
	s := api.Signer{Seed: half(61), Height: 3, Next: 2}
	_, sig, _ := keytree.Sign(s, message(7))
	clear(sig.Chain)
	clear(sig.Path)
	if _, again, _ := keytree.Sign(s, message(7)); !equal(again, modelSignature(s, message(7))) {
		t.Errorf("%v", again)
	}
}

// Rule R3: calls at the same time have the same results.
func TestCallsAreIndependent(t *testing.T) {
	var group sync.WaitGroup
	for i := range 8 {
		group.Go(func() {
			s := api.Signer{Seed: half(70 + i), Height: 3, Next: i}
			p, _ := keytree.New(s.Seed, s.Height)
			_, sig, _ := keytree.Sign(s, message(i))
			if p != modelKey(s.Seed, s.Height) || !equal(sig, modelSignature(s, message(i))) {
				t.Errorf("%v: %v %v", s, p, sig)
			}
			expectVerified(t, "at the same time", p, message(i), sig, true)
		})
	}
	group.Wait()
}
