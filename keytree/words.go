package keytree

import (
	"slices"

	"admission/api"
	"admission/digest"
	"admission/document"
)

// The greatest leaf that is read. Greater ones are not told apart where they are hashed, as two bytes.
const maxLeaf = 1<<16 - 1

// Words returns sig as words of a document.
func Words(sig api.Signature) []string {
	halves := slices.Concat(sig.Chain, sig.Path)
	words := tabulate(len(halves), func(i int) string { return digest.FormatHalf(halves[i]) })
	return append([]string{document.Number(int64(sig.Leaf))}, words...)
}

// Read returns the signature whose Words are these; false if they are not those of a signature of any key.
func Read(words []string) (api.Signature, bool) {
	if len(words) < 1+api.Chains || len(words) > 1+api.Chains+api.MaxHeight {
		return api.Signature{}, false
	}
	leaf, ok := document.ParseNumber(words[0])
	if !ok || leaf > maxLeaf {
		return api.Signature{}, false
	}
	sig := api.Signature{Leaf: int(leaf)}
	for i, w := range words[1:] {
		h, ok := digest.ParseHalf(w)
		if !ok {
			return api.Signature{}, false
		}
		if i < api.Chains {
			sig.Chain = append(sig.Chain, h)
		} else {
			sig.Path = append(sig.Path, h)
		}
	}
	return sig, true
}
