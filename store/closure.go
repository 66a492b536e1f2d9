package store

import (
	"slices"

	"admission/api"
	"admission/digest"
	"admission/document"
)

// Links returns the digests to which data refers if it is a document.
func Links(data []byte) []api.Digest {
	lines, e := document.Decode(data)
	if e != api.OK {
		return nil
	}
	var links []api.Digest
	seen := map[api.Digest]bool{{}: true} // the zero Digest stands for none
	for _, word := range slices.Concat(lines...) {
		if d, ok := digest.Parse(word); ok && !seen[d] {
			seen[d] = true
			links = append(links, d)
		}
	}
	return links
}

// Closure returns the digests that can be reached from roots: those that have a blob in s, and the others.
func Closure(s []api.Blob, roots []api.Digest) (present, missing []api.Digest) {
	data := dataOf(s)
	seen := map[api.Digest]bool{{}: true} // the zero Digest stands for none
	waiting := slices.Clone(roots)
	for len(waiting) > 0 {
		last := len(waiting) - 1
		d := waiting[last]
		waiting = waiting[:last]
		if seen[d] {
			continue
		}
		seen[d] = true
		b, ok := data[d]
		if !ok {
			missing = append(missing, d)
			continue
		}
		present = append(present, d)
		waiting = append(waiting, Links(b)...)
	}
	slices.SortFunc(present, compare)
	slices.SortFunc(missing, compare)
	return present, missing
}

// Sweep returns the blobs of s that can be reached from roots.
func Sweep(s []api.Blob, roots []api.Digest) ([]api.Blob, api.Errno) {
	if !Valid(s) {
		return nil, api.ErrInvalid
	}
	present, _ := Closure(s, roots)
	var kept []api.Blob
	for _, x := range s {
		if _, ok := slices.BinarySearchFunc(present, x.Digest, compare); ok {
			kept = append(kept, x)
		}
	}
	return duplicates(kept), api.OK
}

// dataOf returns what Get returns for the Digests of s, without copies: there may be many more digests to look up than blobs.
func dataOf(s []api.Blob) map[api.Digest][]byte {
	data := make(map[api.Digest][]byte, len(s))
	for _, x := range s {
		if _, ok := data[x.Digest]; !ok {
			data[x.Digest] = x.Data
		}
	}
	return data
}
