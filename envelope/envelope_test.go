package envelope_test

import (
	"bytes"
	"crypto/sha256"
	"encoding/hex"
	"fmt"
	"math"
	"slices"
	"strings"
	"sync"
	"testing"

	"admission/api"
	"admission/envelope"
	"admission/keytree"
)

// expectValid checks Valid against the model and against what is wanted.
func expectValid(t *testing.T, name string, e api.Envelope, want bool) {
	t.Helper()
	if got := envelope.Valid(e); got != want || modelValid(e) != want {
		t.Errorf("%s: %t, want %t, in the model %t", name, got, want, modelValid(e))
	}
}

// Promise 10.1: types.
func TestValidTypes(t *testing.T) {
	for _, kind := range []string{"a", "0", "note", "a.b-c_d", "9z", "a.", "z--", strings.Repeat("n", 63), strings.Repeat("n", 64), strings.Repeat("0", 64)} {
		expectValid(t, kind, api.Envelope{Type: kind}, true)
		expectValid(t, kind, full(kind, "x", 2), true)
	}
	for _, kind := range []string{
		"", "A", "nOte", "-a", ".a", "_a", "a b", " a", "a ", "a\n", "a/b", "a:b", "~", "é", "a\x00", "\xff",
		strings.Repeat("n", 65), strings.Repeat("n", 100000),
	} {
		expectValid(t, kind, api.Envelope{Type: kind}, false)
		expectValid(t, kind, full(kind, "x", 2), false)
	}
	for b := range 256 {
		first, later := string([]byte{byte(b)})+"n", "n"+string([]byte{byte(b)})+"n"
		expectValid(t, first, api.Envelope{Type: first}, nameForm.MatchString(first))
		expectValid(t, later, api.Envelope{Type: later}, nameForm.MatchString(later))
	}
}

// Promise 10.1: payloads of any bytes, up to the limit and beyond.
func TestValidPayloads(t *testing.T) {
	for _, n := range []int{0, 1, 2, 1000, api.MaxWord - 1, api.MaxWord, api.MaxWord + 1, api.MaxWord + 2, 3 * api.MaxWord, 1 << 20} {
		for _, b := range []byte{0, ' ', '%', 'x', '~', 255} {
			e := api.Envelope{Type: "note", Payload: bytes.Repeat([]byte{b}, n)}
			expectValid(t, fmt.Sprintf("%d bytes %q", n, b), e, n <= api.MaxWord)
		}
	}
	expectValid(t, "nil", api.Envelope{Type: "note"}, true)
}

// Promise 10.1: the number of signatures.
func TestValidNumbers(t *testing.T) {
	for n := range 20 {
		expectValid(t, fmt.Sprintf("%d signatures", n), full("note", "x", n), n <= 8)
	}
	expectValid(t, "many signatures", full("note", "x", 300), false)
}

// Promise 10.1: one signature that is not shaped for its key is enough, wherever it is.
func TestValidShapes(t *testing.T) {
	for _, x := range invalid() {
		expectValid(t, x.name, x.e, false)
	}
	good := full("note", "x", 8)
	for i, x := range good.Signatures {
		height := x.Public.Height
		for _, leaf := range []int{math.MinInt, -1, 0, 1<<height - 1, 1 << height, 1<<height + 1, 64, 65536, math.MaxInt} {
			changed := copied(good)
			changed.Signatures[i].Signature.Leaf = leaf
			expectValid(t, fmt.Sprintf("signature %d: leaf %d of height %d", i, leaf, height), changed, 0 <= leaf && leaf < 1<<height)
		}
		for n := range 10 {
			changed := copied(good)
			changed.Signatures[i].Signature.Path = halves(3, n)
			expectValid(t, fmt.Sprintf("signature %d: path of %d for height %d", i, n, height), changed, n == height)
		}
		for _, n := range []int{0, 1, 67, 68, 69, 136} {
			changed := copied(good)
			changed.Signatures[i].Signature.Chain = halves(4, n)
			expectValid(t, fmt.Sprintf("signature %d: %d chains", i, n), changed, n == 68)
		}
	}
	for _, height := range []int{math.MinInt, -250, -1, 0, 1, 5, 6, 7, 8, 256, 262, math.MaxInt} {
		x := api.KeySignature{Public: api.PublicKey{Height: height}, Signature: api.Signature{Chain: halves(5, 68), Path: halves(6, max(0, min(height, 300)))}}
		expectValid(t, fmt.Sprintf("height %d", height), with(good, x), 0 <= height && height <= 6)
	}
}

// Promise 10.1: only one order is valid, and it is the one of the IDs, not of the roots or of the heights.
func TestValidOrder(t *testing.T) {
	e := full("note", "x", 4)
	permutations(e.Signatures, func(l []api.KeySignature) {
		e.Signatures = l
		expectValid(t, "a permutation", e, slices.EqualFunc(l, sorted(l), equalSignatures))
	})
	byRoot, byHeight := 0, 0
	l := signatures(40, api.Digest{})
	for i, x := range l {
		for j, y := range l {
			e.Signatures = []api.KeySignature{x, y}
			expectValid(t, fmt.Sprintf("keys %d and %d", i, j), e, i < j)
			if i < j && bytes.Compare(x.Public.Root[:], y.Public.Root[:]) > 0 {
				byRoot++
			}
			if i < j && x.Public.Height > y.Public.Height {
				byHeight++
			}
		}
	}
	if byRoot == 0 || byHeight == 0 {
		t.Error("no keys whose IDs have another order than their roots and heights")
	}
}

// Promise 10.1: no key has two signatures; keys that differ in the height or the root alone are two.
func TestValidKeys(t *testing.T) {
	e := full("note", "x", 4)
	for i, x := range e.Signatures {
		for _, y := range []api.KeySignature{x, spoiled(x, 1)} {
			twice := e
			twice.Signatures = slices.Insert(slices.Clone(e.Signatures), i, y)
			expectValid(t, fmt.Sprintf("key %d twice", i), twice, false)
		}
	}
	var l []api.KeySignature
	for height := range 7 {
		l = append(l, api.KeySignature{Public: api.PublicKey{Height: height, Root: half(1)}, Signature: api.Signature{Chain: halves(7, 68), Path: halves(8, height)}})
	}
	other := l[3]
	other.Public.Root[15] ^= 1
	expectValid(t, "keys with one root, and one of another one", with(e, append(l, other)...), true)
	expectValid(t, "keys with one root", with(e, l...), true)
}

// Promise 10.1: whether signatures verify does not matter.
func TestValidWithoutVerifying(t *testing.T) {
	e := full("note", "x", 8)
	for i, x := range e.Signatures {
		e.Signatures[i] = spoiled(x, i)
	}
	expectValid(t, "signatures that do not verify", e, true)
	e.Payload = []byte("y")
	expectValid(t, "another payload", e, true)
	zero := api.KeySignature{Signature: api.Signature{Chain: make([]api.Half, 68)}}
	expectValid(t, "a signature of zeros", with(e, zero), true)
}

// expectMessage checks Message against the model.
func expectMessage(t *testing.T, kind, payload string) {
	t.Helper()
	if got, want := envelope.Message(kind, []byte(payload)), modelMessage(kind, payload); got != want {
		t.Errorf("%.40q, %.40q: %x, want %x", kind, payload, got, want)
	}
}

// Promise 10.2: kinds and payloads of any bytes, also kinds that are no names.
func TestMessage(t *testing.T) {
	words := []string{
		"", "~", "a", "note", "a b", "%", "%20", "%7E", "~~", "\n", "a\nb", "envelope", "é", "\x00", "\xff\xfe", " ", "Note", "signature",
		strings.Repeat("n", 64), strings.Repeat("n", 65), strings.Repeat("n", 5000),
	}
	for b := range 256 {
		words = append(words, string([]byte{byte(b)}), string([]byte{'a', byte(b)}))
	}
	for _, x := range words {
		for _, y := range words[:30] {
			expectMessage(t, x, y)
			expectMessage(t, y, x)
		}
	}
	if envelope.Message("note", nil) != envelope.Message("note", []byte{}) {
		t.Error("nil and an empty payload")
	}
}

// Promise 10.2: the limits of a word, each reached and passed by one. Nothing that both words can be reaches the limit of a document.
func TestMessageLimits(t *testing.T) {
	for _, n := range []int{0, 1, api.MaxWord - 1, api.MaxWord, api.MaxWord + 1, api.MaxWord + 2, 1 << 18, 1 << 20} {
		for _, letter := range []string{"x", " ", "\xff"} {
			word := strings.Repeat(letter, n)
			for _, other := range []string{"", "a", strings.Repeat("\x00", api.MaxWord), strings.Repeat("a", api.MaxWord+1)} {
				expectMessage(t, word, other)
				expectMessage(t, other, word)
			}
			if got := envelope.Message(word, []byte(word)); (got == api.Digest{}) != (n > api.MaxWord) {
				t.Errorf("%d bytes %q: %x", n, letter, got)
			}
		}
	}
}

// Promises 10.2 and 10.7: another kind or payload has another message, also where the same bytes are split in another place.
func TestMessagesDiffer(t *testing.T) {
	words := []string{"", "~", "%7E", "a", "aa", "a ", " a", "a a", "A", "\n", "%0A", "\x00", "\x00\x00"}
	seen := map[api.Digest]string{}
	for _, kind := range words {
		for _, payload := range words {
			d, name := envelope.Message(kind, []byte(payload)), fmt.Sprintf("%q, %q", kind, payload)
			if seen[d] != "" {
				t.Errorf("%s: the message of %s", name, seen[d])
			}
			seen[d] = name
		}
	}
}

// expectSigners checks Signers against the model and against what is wanted.
func expectSigners(t *testing.T, name string, e api.Envelope, want []api.Digest) {
	t.Helper()
	if got := envelope.Signers(e); !slices.Equal(got, want) || !slices.Equal(modelSigners(e), want) {
		t.Errorf("%s: %x, want %x, in the model %x", name, got, want, modelSigners(e))
	}
}

// ids returns the IDs of the keys.
func ids(l []api.KeySignature) []api.Digest {
	var out []api.Digest
	for _, x := range l {
		out = append(out, modelID(x.Public))
	}
	return out
}

// Promise 10.3: those that verify, whichever they are.
func TestSigners(t *testing.T) {
	for n := range 9 {
		e := full("note", "some bytes %~\x00", n)
		expectSigners(t, fmt.Sprintf("%d signatures", n), e, ids(e.Signatures))
	}
	good := full("note", "x", 5)
	for subset := range 1 << 5 {
		e := copied(good)
		var want []api.Digest
		for i, x := range good.Signatures {
			if subset>>i&1 == 1 {
				want = append(want, modelID(x.Public))
			} else {
				e.Signatures[i] = spoiled(x, 10*i)
			}
		}
		expectSigners(t, fmt.Sprintf("subset %d", subset), e, want)
	}
}

// Promise 10.3: what is not valid has no signers, although its signatures verify.
func TestSignersOfInvalid(t *testing.T) {
	for _, x := range invalid() {
		expectSigners(t, x.name, x.e, nil)
	}
}

// Promise 10.3: signatures of something else, and signatures under keys of others.
func TestSignersOfChanges(t *testing.T) {
	good := full("note", "some bytes", 4)
	for i := range good.Payload {
		e := copied(good)
		e.Payload[i] ^= 1
		expectSigners(t, fmt.Sprintf("byte %d of the payload", i), e, nil)
	}
	for _, payload := range []string{"", "some byte", "some bytes ", "ome bytes", "some%20bytes"} {
		e := copied(good)
		e.Payload = []byte(payload)
		expectSigners(t, payload, e, nil)
	}
	for _, kind := range []string{"n", "not", "notes", "nota", "0"} {
		e := copied(good)
		e.Type = kind
		expectSigners(t, kind, e, nil)
	}
	e := with(good, verified(0, 2, 1, modelMessage("note", "x")), verified(1, 2, 1, modelMessage("note", "some bytes")), verified(2, 2, 1, modelMessage("other", "some bytes")))
	expectSigners(t, "signatures of several payloads", e, []api.Digest{modelID(verified(1, 2, 1, modelMessage("note", "some bytes")).Public)})
	a, b := verified(0, 2, 1, modelMessage("note", "x")), verified(1, 2, 1, modelMessage("note", "x"))
	e = full("note", "x", 0)
	expectSigners(t, "signatures of two keys", with(e, a, b), ids(sorted([]api.KeySignature{a, b})))
	a.Signature, b.Signature = b.Signature, a.Signature
	expectSigners(t, "signatures exchanged", with(e, a, b), nil)
	expectSigners(t, "zeros", with(e, api.KeySignature{Signature: api.Signature{Chain: make([]api.Half, 68)}}), nil)
}

// modelSign returns what Sign must return: from the text of the promise, with keytree's calls.
func modelSign(e api.Envelope, s api.Signer) (api.Envelope, api.Signer, api.Errno) {
	if !modelValid(e) {
		return api.Envelope{}, api.Signer{}, api.ErrInvalid
	}
	left, sig, errno := keytree.Sign(s, modelMessage(e.Type, string(e.Payload)))
	if errno != api.OK {
		return api.Envelope{}, api.Signer{}, errno
	}
	p, _ := keytree.New(s.Seed, s.Height)
	if slices.ContainsFunc(e.Signatures, func(x api.KeySignature) bool { return x.Public == p }) {
		return api.Envelope{}, api.Signer{}, api.ErrDuplicate
	}
	if len(e.Signatures) == 8 {
		return api.Envelope{}, api.Signer{}, api.ErrLimit
	}
	return with(e, append(slices.Clone(e.Signatures), api.KeySignature{Public: p, Signature: sig})...), left, api.OK
}

// expectSigned checks Sign against the model and against the error that is wanted, and returns the envelope.
func expectSigned(t *testing.T, name string, e api.Envelope, s api.Signer, wantErrno api.Errno) api.Envelope {
	t.Helper()
	got, left, errno := envelope.Sign(e, s)
	want, wantLeft, modelErrno := modelSign(e, s)
	if modelErrno != wantErrno || left != wantLeft {
		t.Errorf("%s: %v, want %v, and the error %d, in the model %d", name, left, wantLeft, wantErrno, modelErrno)
	}
	expect(t, name, got, errno, want, wantErrno)
	return got
}

// Promises 10.3, 10.4 and 10.6: what each signer signs is signed by its key, written and read, whatever else has signed it.
func TestSign(t *testing.T) {
	for height := range api.MaxHeight + 1 {
		last := 1<<height - 1
		for _, next := range slices.Compact([]int{0, last / 2, last}) {
			s := api.Signer{Seed: half(height), Height: height, Next: next}
			p, _ := keytree.New(s.Seed, height)
			for _, n := range []int{0, 3, 7} {
				name := fmt.Sprintf("height %d, leaf %d, %d signatures", height, next, n)
				e := expectSigned(t, name, full("note", name, n), s, api.OK)
				if !slices.Contains(envelope.Signers(e), modelID(p)) || len(envelope.Signers(e)) != n+1 {
					t.Errorf("%s: signed by %x", name, envelope.Signers(e))
				}
				expectValid(t, name, e, true)
			}
		}
	}
}

// Promise 10.4: a signature at each place among the others, which stay as they are whether or not they verify.
func TestSignPlaces(t *testing.T) {
	e := full("note", "x", 0)
	places := map[int]bool{}
	for n := range 60 {
		s := api.Signer{Seed: half(n), Height: n % 2}
		p, _ := keytree.New(s.Seed, s.Height)
		before := full("note", "x", 7)
		before.Signatures[2] = spoiled(before.Signatures[2], n)
		got := expectSigned(t, fmt.Sprintf("signer %d", n), before, s, api.OK)
		places[slices.IndexFunc(got.Signatures, func(x api.KeySignature) bool { return x.Public == p })] = true
		if n < 8 {
			e = expectSigned(t, fmt.Sprintf("signer %d of 8", n), e, s, api.OK)
		}
	}
	if len(places) != 8 {
		t.Errorf("only the places %v", places)
	}
	expectSigned(t, "signer 9", e, api.Signer{Seed: half(99)}, api.ErrLimit)
	if len(envelope.Signers(e)) != 8 {
		t.Errorf("signed by %x", envelope.Signers(e))
	}
}

// Promise 10.4: the order in which they sign does not matter.
func TestSignOrder(t *testing.T) {
	signers := []api.Signer{{Seed: half(1)}, {Seed: half(2), Height: 1, Next: 1}, {Seed: half(3), Height: 2}, {Seed: half(1), Height: 1}}
	var first api.Envelope
	permutations(signers, func(l []api.Signer) {
		e := api.Envelope{Type: "note", Payload: []byte("x")}
		for _, s := range l {
			e = expectSigned(t, "a permutation", e, s, api.OK)
		}
		if first.Type == "" {
			first = e
		}
		expect(t, "a permutation", e, api.OK, first, api.OK)
	})
	if len(first.Signatures) != 4 {
		t.Errorf("%d signatures", len(first.Signatures))
	}
}

// Promise 10.4: which error is returned where several apply.
func TestSignErrors(t *testing.T) {
	s := api.Signer{Seed: half(20), Height: 1}
	has := expectSigned(t, "the first signature", full("note", "x", 2), s, api.OK)
	hasFull := expectSigned(t, "the eighth signature", full("note", "x", 7), s, api.OK)
	hasSpoiled := copied(has)
	for i, x := range hasSpoiled.Signatures {
		hasSpoiled.Signatures[i] = spoiled(x, 5)
	}
	signers := []struct {
		name         string
		height, next int
		want         api.Errno
	}{
		{"a signer", 1, 0, api.OK},
		{"a signer with another leaf", 1, 1, api.OK},
		{"a negative height", -1, 0, api.ErrInvalid},
		{"a height too great", 7, 0, api.ErrInvalid},
		{"a height much too great", math.MaxInt, 0, api.ErrInvalid},
		{"a negative leaf", 1, -1, api.ErrInvalid},
		{"a height and a leaf", 7, 128, api.ErrInvalid},
		{"an exhausted signer", 1, 2, api.ErrExhausted},
		{"a signer beyond its end", 1, math.MaxInt, api.ErrExhausted},
	}
	for _, x := range signers {
		s := api.Signer{Seed: half(20), Height: x.height, Next: x.next}
		for _, y := range []struct {
			named
			want api.Errno
		}{
			{named{"two signatures of others", full("note", "x", 2)}, api.OK},
			{named{"a signature of the key", has}, api.ErrDuplicate},
			{named{"a signature of the key that does not verify", hasSpoiled}, api.ErrDuplicate},
			{named{"eight signatures of others", full("note", "x", 8)}, api.ErrLimit},
			{named{"eight signatures, one of the key", hasFull}, api.ErrDuplicate},
		} {
			want := y.want
			if x.want != api.OK {
				want = x.want
			}
			expectSigned(t, x.name+", "+y.name, y.e, s, want)
		}
		for _, y := range invalid() {
			expectSigned(t, x.name+", "+y.name, y.e, s, api.ErrInvalid)
		}
	}
}

// Promise 10.4: keys of one seed with other heights are other keys.
func TestSignWithOneSeed(t *testing.T) {
	e := api.Envelope{Type: "note"}
	for height := range api.MaxHeight + 1 {
		e = expectSigned(t, fmt.Sprintf("height %d", height), e, api.Signer{Seed: half(21), Height: height}, api.OK)
	}
	for height := range api.MaxHeight + 1 {
		expectSigned(t, fmt.Sprintf("height %d again", height), e, api.Signer{Seed: half(21), Height: height}, api.ErrDuplicate)
	}
	if len(envelope.Signers(e)) != 7 {
		t.Errorf("signed by %x", envelope.Signers(e))
	}
}

// expectJoined checks Join of envelopes that can be joined, in both orders.
func expectJoined(t *testing.T, name string, a, b api.Envelope) {
	t.Helper()
	for _, x := range [][2]api.Envelope{{a, b}, {b, a}} {
		got, errno := envelope.Join(x[0], x[1])
		expect(t, name, got, errno, modelJoin(x[0], x[1]), api.OK)
		expectValid(t, name, got, true)
	}
}

// Promise 10.5: of two keys both envelopes have no signature, one of several that verify or one of several that do not.
func TestJoinStates(t *testing.T) {
	e := api.Envelope{Type: "note", Payload: []byte("x")}
	d := modelMessage("note", "x")
	var states [2][]api.KeySignature
	for key := range states {
		seed := half(30 + key)
		p, _ := keytree.New(seed, 1)
		for leaf := range 2 {
			_, sig, _ := keytree.Sign(api.Signer{Seed: seed, Height: 1, Next: leaf}, d)
			x := api.KeySignature{Public: p, Signature: sig}
			states[key] = append(states[key], x, spoiled(x, 4))
		}
	}
	var all []api.Envelope
	for i := range 5 {
		for j := range 5 {
			var l []api.KeySignature
			if i < 4 {
				l = append(l, states[0][i])
			}
			if j < 4 {
				l = append(l, states[1][j])
			}
			all = append(all, with(e, l...))
		}
	}
	for i, a := range all {
		for j, b := range all {
			expectJoined(t, fmt.Sprintf("%d and %d", i, j), a, b)
		}
	}
}

// Promise 10.5: a signature of a where both verify or none does, that of b only where it is better.
func TestJoinOfOneKey(t *testing.T) {
	seed := half(40)
	first, _, _ := envelope.Sign(api.Envelope{Type: "note"}, api.Signer{Seed: seed, Height: 1})
	second, _, _ := envelope.Sign(api.Envelope{Type: "note"}, api.Signer{Seed: seed, Height: 1, Next: 1})
	bad := with(first, spoiled(first.Signatures[0], 1))
	worse := with(second, spoiled(second.Signatures[0], 2))
	for i, x := range []struct{ a, b, want api.Envelope }{
		{first, second, first}, {second, first, second}, {first, first, first},
		{first, bad, first}, {bad, first, first}, {worse, first, first}, {first, worse, first},
		{bad, worse, bad}, {worse, bad, worse}, {bad, bad, bad},
	} {
		got, errno := envelope.Join(x.a, x.b)
		expect(t, fmt.Sprintf("case %d", i), got, errno, x.want, api.OK)
	}
}

// Promise 10.5: every pair of sets of five keys.
func TestJoinSets(t *testing.T) {
	e := full("note", "x", 5)
	subset := func(n int) api.Envelope {
		var l []api.KeySignature
		for i, x := range e.Signatures {
			if n>>i&1 == 1 {
				l = append(l, x)
			}
		}
		return with(e, l...)
	}
	for i := range 1 << 5 {
		for j := range 1 << 5 {
			got, errno := envelope.Join(subset(i), subset(j))
			expect(t, fmt.Sprintf("sets %d and %d", i, j), got, errno, subset(i|j), api.OK)
		}
	}
}

// Promise 10.5: the limit reached and passed by one, where some keys have signed both.
func TestJoinLimit(t *testing.T) {
	l := signatures(16, modelMessage("note", "x"))
	e := api.Envelope{Type: "note", Payload: []byte("x")}
	for n := range 9 {
		for m := range 9 {
			for both := range min(n, m) + 1 {
				a, b := with(e, l[:n]...), with(e, l[n-both:n-both+m]...)
				want := api.OK
				if n+m-both > 8 {
					want = api.ErrLimit
				}
				for _, x := range [][2]api.Envelope{{a, b}, {b, a}} {
					got, errno := envelope.Join(x[0], x[1])
					expect(t, fmt.Sprintf("%d and %d, %d of them both", n, m, both), got, errno, with(e, l[:n-both+m]...), want)
				}
			}
		}
	}
}

// Promise 10.5: which error is returned where several apply.
func TestJoinErrors(t *testing.T) {
	good := full("note", "x", 8)
	others := []named{{"another type", full("notes", "x", 8)}, {"another payload", full("note", "y", 8)}, {"a longer payload", full("note", "x ", 1)}, {"no payload", full("note", "", 0)}, {"both", full("a", "b", 2)}}
	for _, x := range others {
		for _, y := range [][2]api.Envelope{{good, x.e}, {x.e, good}} {
			got, errno := envelope.Join(y[0], y[1])
			expect(t, x.name, got, errno, api.Envelope{}, api.ErrMismatch)
		}
		for _, z := range invalid() {
			for _, y := range [][2]api.Envelope{{z.e, x.e}, {x.e, z.e}, {z.e, z.e}, {z.e, good}, {good, z.e}} {
				got, errno := envelope.Join(y[0], y[1])
				expect(t, x.name+", "+z.name, got, errno, api.Envelope{}, api.ErrInvalid)
			}
		}
	}
	for _, payload := range []string{"", "x"} {
		expectJoined(t, payload, full("note", payload, 3), api.Envelope{Type: "note", Payload: []byte(payload)})
	}
	expectJoined(t, "nil and an empty payload", api.Envelope{Type: "note"}, full("note", "", 2))
}

// Promise 10.7: the message that is signed is the one of the type and the payload, before and after every change of the signatures.
func TestMessageStays(t *testing.T) {
	for _, payload := range []string{"", "x", "signature 0", strings.Repeat("\xff", api.MaxWord)} {
		want := modelMessage("note", payload)
		e := api.Envelope{Type: "note", Payload: []byte(payload)}
		for n := range 8 {
			e, _, _ = envelope.Sign(e, api.Signer{Seed: half(n)})
			joined, _ := envelope.Join(e, full("note", payload, 8-n-1))
			b, _ := envelope.Encode(joined)
			read, errno := envelope.Decode(b)
			for _, x := range []api.Envelope{e, joined, read} {
				if errno != api.OK || envelope.Message(x.Type, x.Payload) != want || len(envelope.Signers(x)) != len(x.Signatures) || len(x.Signatures) == 0 {
					t.Errorf("%.20q: after signature %d: %d", payload, n, errno)
				}
			}
		}
	}
}

// counted is a seed of 16 bytes that ascend from one.
func counted(from int) api.Half {
	var seed api.Half
	for i := range seed {
		seed[i] = byte(from + i)
	}
	return seed
}

// Promises 10.2 to 10.6: values that a program in another language has computed.
func TestKnownValues(t *testing.T) {
	var bytes256 []byte
	for b := range 256 {
		bytes256 = append(bytes256, byte(b))
	}
	for _, x := range []struct{ kind, payload, want string }{
		{"note", "abc", "a73cb241e6e5bd325bfcd6e05ad9714d7fe1b35a5418e3cc94496e66e87c230b"},
		{"", "", "95e7f0fd058ed9894c4a72a72d2f41fa51fbccf46c4d7bde161b164f1f7fd881"},
		{"A b\n", "%~\x00\xff", "a5c504958a4764a1250a852bc6539512874f9e5a9efc798a615f5725024ca105"},
		{"x", string(bytes256), "ef01f32c5aa94c7943ede47a8db1f35556ec2c45facc14ba2d967acf8e924cbe"},
	} {
		if d := envelope.Message(x.kind, []byte(x.payload)); hex.EncodeToString(d[:]) != x.want {
			t.Errorf("the message of %q and %q: %x", x.kind, x.payload, d)
		}
	}
	e := api.Envelope{Type: "note", Payload: []byte("abc")}
	for _, s := range []api.Signer{{Seed: counted(0), Height: 2, Next: 1}, {Seed: counted(16)}, {Seed: counted(0), Height: 3, Next: 5}} {
		var errno api.Errno
		if e, _, errno = envelope.Sign(e, s); errno != api.OK {
			t.Fatal(errno)
		}
	}
	want := []string{
		"080029dbcde6b87f4662b20aaad3852bc61cfbb142609664fcc5d23b3b56e23b",
		"2c833130577021208f8eb0233afdc291eeb759ed8189594672856a0c90983faa",
		"3babed2373aecab2ffe38fc9caba5d90525e76bbeec0b190f3481c89c3aa8fed",
	}
	var got []string
	for _, d := range envelope.Signers(e) {
		got = append(got, hex.EncodeToString(d[:]))
	}
	b, _ := envelope.Encode(e)
	if d := sha256.Sum256(b); !slices.Equal(got, want) || len(b) != 7056 || hex.EncodeToString(d[:]) != "0d7189f7aeddac04bedb20d5037732fba233a1d0180e6811ba2121ec1cd52dd4" {
		t.Errorf("signers %q, %d bytes with the digest %x", got, len(b), d)
	}
}

// roomy returns e with memory after each of its slices, and a function that reports whether this memory is as before.
func roomy(e api.Envelope) (api.Envelope, func() bool) {
	var untouched []func() bool
	e.Payload = keep(e.Payload, 0xee, &untouched)
	for i := range e.Signatures {
		sig := &e.Signatures[i].Signature
		sig.Chain, sig.Path = keep(sig.Chain, half(77), &untouched), keep(sig.Path, half(78), &untouched)
	}
	l := append(e.Signatures, e.Signatures...)
	e.Signatures = l[:len(e.Signatures)]
	before := copied(e)
	return e, func() bool {
		for _, f := range untouched {
			if !f() {
				return false
			}
		}
		return equal(e, before) && slices.EqualFunc(l[len(before.Signatures):], before.Signatures, equalSignatures)
	}
}

// keep returns l with some elements x after it, and adds a function that reports whether they are still there.
func keep[T comparable](l []T, x T, untouched *[]func() bool) []T {
	memory := append(slices.Clone(l), x, x, x)
	*untouched = append(*untouched, func() bool { return slices.Equal(memory[len(l):], []T{x, x, x}) })
	return memory[:len(l)]
}

// overwrite changes all of e.
func overwrite(e api.Envelope) {
	for i := range e.Payload {
		e.Payload[i]++
	}
	for i := range e.Signatures {
		clear(e.Signatures[i].Signature.Chain)
		clear(e.Signatures[i].Signature.Path)
	}
	clear(e.Signatures)
}

// Rule R4, and the rule of the language that results are new memory: neither the arguments nor the memory after them are modified, and results share none with them.
func TestArgumentsStay(t *testing.T) {
	a, aStays := roomy(full("note", "payload", 5))
	b, bStays := roomy(with(full("note", "payload", 7), signatures(7, modelMessage("note", "payload"))[2:]...))
	s := api.Signer{Seed: half(50), Height: 1}
	signed, _, _ := envelope.Sign(a, s)
	joined, _ := envelope.Join(a, b)
	text, _ := envelope.Encode(a)
	memory := append(bytes.Clone(text), "tail"...)
	read, _ := envelope.Decode(memory[:len(text)])
	envelope.Valid(a)
	envelope.Signers(a)
	envelope.Message(a.Type, a.Payload)
	for _, e := range []api.Envelope{signed, joined, read} {
		if !slices.Equal(envelope.Signers(e), ids(e.Signatures)) || len(e.Signatures) < 5 {
			t.Errorf("signed by %x", envelope.Signers(e))
		}
		overwrite(e)
	}
	if !aStays() || !bStays() || !bytes.Equal(memory, append(text, "tail"...)) {
		t.Error("an argument was modified")
	}
	if got, errno := envelope.Join(b, a); !equal(got, modelJoin(b, a)) {
		t.Errorf("joined again: %d", errno)
	}
	if got, errno := envelope.Decode(text); !equal(got, a) {
		t.Errorf("read again: %d", errno)
	}
}

// The rule of the language that no two slices of a result share memory, even where those of the arguments do.
func TestResultsShareNothing(t *testing.T) {
	shared := halves(1, 68+6)
	e := api.Envelope{Type: "note", Payload: []byte("x")}
	var l []api.KeySignature
	for i := range 4 {
		x := verified(i, 6, 1, modelMessage("note", "x"))
		x.Signature = api.Signature{Leaf: 1, Chain: shared[:68], Path: shared[68:]}
		l = append(l, x)
	}
	e = with(e, l...)
	joined, _ := envelope.Join(with(e, l[:2]...), with(e, l[1:]...))
	signed, _, _ := envelope.Sign(e, api.Signer{Seed: half(51)})
	b, _ := envelope.Encode(e)
	read, _ := envelope.Decode(b)
	for _, got := range []api.Envelope{joined, signed, read} {
		want := copied(got)
		sig := &got.Signatures[1].Signature
		clear(sig.Path)
		sig.Chain = append(sig.Chain[:0], make([]api.Half, 80)...)
		want.Signatures[1].Signature = *sig
		if !equal(got, want) || len(got.Signatures) < 4 {
			t.Error("signatures share memory")
		}
	}
}

// Rule R3: calls at the same time have the same results.
func TestCallsAreIndependent(t *testing.T) {
	var group sync.WaitGroup
	a := full("note", "x", 4)
	for i := range 8 {
		group.Go(func() {
			s := api.Signer{Seed: half(60 + i), Height: 2, Next: i % 4}
			e := expectSigned(t, "at the same time", a, s, api.OK)
			expectJoined(t, "at the same time", e, a)
			expectSigners(t, "at the same time", e, ids(e.Signatures))
			expectText(t, "at the same time", e)
		})
	}
	group.Wait()
}
