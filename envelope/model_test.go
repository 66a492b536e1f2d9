package envelope_test

import (
	"bytes"
	"crypto/sha256"
	"fmt"
	"regexp"
	"slices"
	"strings"
	"testing"

	"admission/api"
	"admission/keytree"
	"admission/onetime"
)

// The model of the chapter, from its text and apart from the package.

// modelWord returns the encoded form of a word.
func modelWord(w string) string {
	if w == "" {
		return "~"
	}
	var out strings.Builder
	for _, c := range []byte(w) {
		if 0x21 <= c && c <= 0x7d && c != '%' {
			out.WriteByte(c)
		} else {
			fmt.Fprintf(&out, "%%%02X", c)
		}
	}
	return out.String()
}

func modelHead(kind, payload string) string {
	return "envelope " + modelWord(kind) + " " + modelWord(payload) + "\n"
}

func modelMessage(kind, payload string) api.Digest {
	if len(kind) > 32768 || len(payload) > 32768 {
		return api.Digest{}
	}
	return sha256.Sum256([]byte(modelHead(kind, payload)))
}

func modelID(p api.PublicKey) api.Digest {
	return sha256.Sum256(append([]byte{7, byte(p.Height)}, p.Root[:]...))
}

func compareDigests(a, b api.Digest) int { return bytes.Compare(a[:], b[:]) }

// sorted returns l in the order of the IDs of the keys.
func sorted(l []api.KeySignature) []api.KeySignature {
	return slices.SortedFunc(slices.Values(l), func(x, y api.KeySignature) int {
		return compareDigests(modelID(x.Public), modelID(y.Public))
	})
}

var nameForm = regexp.MustCompile(`\A[a-z0-9][a-z0-9._-]{0,63}\z`)

func modelValid(e api.Envelope) bool {
	if !nameForm.MatchString(e.Type) || len(e.Payload) > 32768 || len(e.Signatures) > 8 {
		return false
	}
	seen := map[api.Digest]bool{}
	for i, x := range e.Signatures {
		h, sig := x.Public.Height, x.Signature
		if h < 0 || h > 6 || sig.Leaf < 0 || sig.Leaf > 1<<h-1 || len(sig.Chain) != 68 || len(sig.Path) != h {
			return false
		}
		seen[modelID(x.Public)] = true
		if x.Public != sorted(e.Signatures)[i].Public {
			return false
		}
	}
	return len(seen) == len(e.Signatures)
}

func modelSigners(e api.Envelope) []api.Digest {
	if !modelValid(e) {
		return nil
	}
	var ids []api.Digest
	for _, x := range e.Signatures {
		if verifies(e, x) {
			ids = append(ids, modelID(x.Public))
		}
	}
	slices.SortFunc(ids, compareDigests)
	return ids
}

// verifies reports whether x is a signature of what e holds.
func verifies(e api.Envelope, x api.KeySignature) bool {
	return keytree.Verify(x.Public, modelMessage(e.Type, string(e.Payload)), x.Signature)
}

// modelJoin joins two envelopes that can be joined.
func modelJoin(a, b api.Envelope) api.Envelope {
	kept := map[api.PublicKey]api.KeySignature{}
	for _, x := range b.Signatures {
		kept[x.Public] = x
	}
	for _, x := range a.Signatures {
		if y, ok := kept[x.Public]; !ok || verifies(a, x) || !verifies(a, y) {
			kept[x.Public] = x
		}
	}
	out := api.Envelope{Type: a.Type, Payload: a.Payload}
	for _, x := range kept {
		out.Signatures = append(out.Signatures, x)
	}
	out.Signatures = sorted(out.Signatures)
	return out
}

// modelText returns the encoded form of e.
func modelText(e api.Envelope) string {
	out := modelHead(e.Type, string(e.Payload))
	for _, x := range e.Signatures {
		out += modelLine(x)
	}
	return out
}

func modelLine(x api.KeySignature) string {
	line := fmt.Sprintf("signature %d %x %d", x.Public.Height, x.Public.Root[:], x.Signature.Leaf)
	for _, h := range slices.Concat(x.Signature.Chain, x.Signature.Path) {
		line += fmt.Sprintf(" %x", h[:])
	}
	return line + "\n"
}

// half returns a half that depends on the numbers.
func half(numbers ...int) api.Half {
	d := sha256.Sum256(fmt.Append(nil, "half", numbers))
	return api.Half(d[:16])
}

// halves returns n halves that depend on the number from.
func halves(from, n int) []api.Half {
	var out []api.Half
	for i := range n {
		out = append(out, half(from, i))
	}
	return out
}

// verified returns a signature number n of d, of any elements: its key is the one to whose root they lead.
func verified(n, height, leaf int, d api.Digest) api.KeySignature {
	sig := api.Signature{Leaf: leaf, Chain: halves(n, api.Chains), Path: halves(-n-1, height)}
	node, _ := onetime.Recover(leaf, d, sig.Chain)
	for k, other := range sig.Path {
		if leaf>>k&1 == 0 {
			node = keytree.Join(k, leaf>>k/2, node, other)
		} else {
			node = keytree.Join(k, leaf>>k/2, other, node)
		}
	}
	return api.KeySignature{Public: api.PublicKey{Height: height, Root: node}, Signature: sig}
}

// spoiled returns x with another signature, which does not verify.
func spoiled(x api.KeySignature, n int) api.KeySignature {
	x.Signature.Chain = slices.Clone(x.Signature.Chain)
	x.Signature.Chain[n] = half(n)
	return x
}

// signatures returns n signatures of d by different keys of all heights, in order.
func signatures(n int, d api.Digest) []api.KeySignature {
	var l []api.KeySignature
	for i := range n {
		height := i % (api.MaxHeight + 1)
		l = append(l, verified(i, height, (i*5+1)%(1<<height), d))
	}
	return sorted(l)
}

// full returns an envelope with n signatures that verify.
func full(kind, payload string, n int) api.Envelope {
	return api.Envelope{Type: kind, Payload: []byte(payload), Signatures: signatures(n, modelMessage(kind, payload))}
}

// with returns e with these signatures, in order.
func with(e api.Envelope, l ...api.KeySignature) api.Envelope {
	e.Signatures = sorted(l)
	return e
}

// cut returns l without its element i, in memory of its own.
func cut(l []api.KeySignature, i int) []api.KeySignature {
	return slices.Delete(slices.Clone(l), i, i+1)
}

// copied returns e in memory of its own.
func copied(e api.Envelope) api.Envelope {
	e.Payload, e.Signatures = bytes.Clone(e.Payload), slices.Clone(e.Signatures)
	for i := range e.Signatures {
		sig := &e.Signatures[i].Signature
		sig.Chain, sig.Path = slices.Clone(sig.Chain), slices.Clone(sig.Path)
	}
	return e
}

func equalSignatures(x, y api.KeySignature) bool {
	a, b := x.Signature, y.Signature
	return x.Public == y.Public && a.Leaf == b.Leaf && slices.Equal(a.Chain, b.Chain) && slices.Equal(a.Path, b.Path)
}

func equal(a, b api.Envelope) bool {
	return a.Type == b.Type && bytes.Equal(a.Payload, b.Payload) && slices.EqualFunc(a.Signatures, b.Signatures, equalSignatures)
}

// expect checks a result that is an envelope and an error: without the error it is want, with an error it is zero.
func expect(t *testing.T, name string, got api.Envelope, errno api.Errno, want api.Envelope, wantErrno api.Errno) {
	t.Helper()
	if wantErrno != api.OK {
		want = api.Envelope{}
	}
	if errno != wantErrno || !equal(got, want) {
		t.Errorf("%s: %d, an envelope %q of %d bytes with %d signatures, want %d, %q, %d, %d", name,
			errno, got.Type, len(got.Payload), len(got.Signatures), wantErrno, want.Type, len(want.Payload), len(want.Signatures))
	}
}

// named is an envelope with a name.
type named struct {
	name string
	e    api.Envelope
}

// bent returns x with something of another size.
func bent(x api.KeySignature, height, leaf, chain, path int) api.KeySignature {
	x.Public.Height += height
	x.Signature.Leaf += leaf
	x.Signature.Chain = halves(1, len(x.Signature.Chain)+chain)
	x.Signature.Path = halves(2, len(x.Signature.Path)+path)
	return x
}

// invalid returns envelopes that are not valid, each for one reason.
func invalid() []named {
	good := full("note", "x", 3)
	l := good.Signatures
	again := spoiled(l[1], 3)
	out := []named{
		{"the zero envelope", api.Envelope{}},
		{"no type", full("", "x", 2)},
		{"no name", full("Note", "x", 1)},
		{"a long name", full(strings.Repeat("n", 65), "x", 1)},
		{"a long payload", full("note", strings.Repeat("x", 32769), 1)},
		{"nine signatures", full("note", "x", 9)},
		{"another order", api.Envelope{Type: "note", Payload: []byte("x"), Signatures: []api.KeySignature{l[1], l[0], l[2]}}},
		{"a signature twice", with(good, l[0], l[1], l[1])},
		{"a key twice", with(good, l[0], l[1], again, l[2])},
	}
	for i, x := range l {
		rest := cut(l, i)
		out = append(out,
			named{"a lower key", with(good, append(rest, bent(x, -1, 0, 0, 0))...)},
			named{"a higher key", with(good, append(rest, bent(x, 1, 0, 0, 0))...)},
			named{"a leaf that is negative", with(good, append(rest, bent(x, 0, -x.Signature.Leaf-1, 0, 0))...)},
			named{"a leaf beyond the last one", with(good, append(rest, bent(x, 0, 1<<x.Public.Height-x.Signature.Leaf, 0, 0))...)},
			named{"a chain too few", with(good, append(rest, bent(x, 0, 0, -1, 0))...)},
			named{"a chain too many", with(good, append(rest, bent(x, 0, 0, 1, 0))...)},
			named{"a path too long", with(good, append(rest, bent(x, 0, 0, 0, 1))...)},
			named{"no signature", with(good, append(rest, api.KeySignature{Public: x.Public})...)},
		)
	}
	return out
}

// permutations calls visit with every order of l.
func permutations[T any](l []T, visit func([]T)) {
	var fix func(n int)
	fix = func(n int) {
		if n == len(l) {
			visit(slices.Clone(l))
			return
		}
		for i := n; i < len(l); i++ {
			l[n], l[i] = l[i], l[n]
			fix(n + 1)
			l[n], l[i] = l[i], l[n]
		}
	}
	fix(0)
}
