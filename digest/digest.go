// Package digest computes and formats SHA-256 digests and the roots of Merkle trees. See shared/doc/01-digest.md.
package digest

import "admission/api"

// The first byte that is digested tells a leaf of a Merkle tree from a node, so that no leaf has the digest of a node.
const (
	leafTag = 0
	nodeTag = 1
)

// Sum returns the SHA-256 digest of b.
func Sum(b []byte) api.Digest { return sum(b) }

// Half returns the first half of the SHA-256 digest of the concatenation of parts.
func Half(parts [][]byte) api.Half {
	d := sum(parts...)
	var h api.Half
	copy(h[:], d[:])
	return h
}

// Leaf returns the digest of a leaf of a Merkle tree with the content b.
func Leaf(b []byte) api.Digest { return sum([]byte{leafTag}, b) }

// Node returns the digest of the node of a Merkle tree with the children a and b.
func Node(a, b api.Digest) api.Digest { return sum([]byte{nodeTag}, a[:], b[:]) }

// Tree returns the root of the Merkle tree over l, or the zero Digest if l is empty.
func Tree(l []api.Digest) api.Digest {
	switch len(l) {
	case 0:
		return api.Digest{}
	case 1:
		return l[0]
	}
	k := leftLeaves(len(l))
	return Node(Tree(l[:k]), Tree(l[k:]))
}

// leftLeaves returns the greatest power of two that is less than n, which is at least 2.
func leftLeaves(n int) int {
	k := 1
	// The rest of n is compared, because twice k need not fit into an int.
	for k < n-k {
		k *= 2
	}
	return k
}

// sum returns the SHA-256 digest of the concatenation of parts, without making it.
func sum(parts ...[]byte) api.Digest {
	h := newHash()
	for _, p := range parts {
		h.write(p)
	}
	return h.finish()
}
