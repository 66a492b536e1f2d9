package envelope

import (
	"admission/api"
	"admission/digest"
	"admission/document"
	"admission/keytree"
)

// The first words of the lines of an envelope.
const (
	headWord      = "envelope"
	signatureWord = "signature"
)

// Encode returns the encoded form of e.
func Encode(e api.Envelope) ([]byte, api.Errno) {
	if !Valid(e) {
		return nil, api.ErrInvalid
	}
	lines := [][]string{headLine(e.Type, e.Payload)}
	for _, x := range e.Signatures {
		lines = append(lines, signatureLine(x))
	}
	return document.Encode(lines)
}

// headLine returns the line of what is signed.
func headLine(kind string, payload []byte) []string {
	return []string{headWord, kind, string(payload)}
}

func signatureLine(x api.KeySignature) []string {
	line := []string{signatureWord, document.Number(int64(x.Public.Height)), digest.FormatHalf(x.Public.Root)}
	return append(line, keytree.Words(x.Signature)...)
}

// Decode returns the envelope whose encoded form is b.
func Decode(b []byte) (api.Envelope, api.Errno) {
	lines, errno := document.Decode(b)
	if errno != api.OK {
		return api.Envelope{}, errno
	}
	e, ok := readLines(lines)
	switch {
	case !ok:
		return api.Envelope{}, api.ErrSyntax
	case !Valid(e):
		return api.Envelope{}, api.ErrInvalid
	}
	return e, api.OK
}

// readLines returns the envelope of these lines, valid or not.
func readLines(lines [][]string) (api.Envelope, bool) {
	if len(lines) == 0 || len(lines[0]) != 3 || lines[0][0] != headWord {
		return api.Envelope{}, false
	}
	e := api.Envelope{Type: lines[0][1], Payload: []byte(lines[0][2])}
	for _, line := range lines[1:] {
		x, ok := readSignature(line)
		if !ok {
			return api.Envelope{}, false
		}
		e.Signatures = append(e.Signatures, x)
	}
	return e, true
}

// readSignature returns the key and the signature of a line, whether or not they fit.
func readSignature(line []string) (api.KeySignature, bool) {
	if len(line) < 3 || line[0] != signatureWord {
		return api.KeySignature{}, false
	}
	height, isNumber := document.ParseNumber(line[1])
	root, isHalf := digest.ParseHalf(line[2])
	signature, isSignature := keytree.Read(line[3:])
	if !isNumber || height > api.MaxHeight || !isHalf || !isSignature {
		return api.KeySignature{}, false
	}
	return api.KeySignature{Public: api.PublicKey{Height: int(height), Root: root}, Signature: signature}, true
}
