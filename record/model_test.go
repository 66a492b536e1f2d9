package record_test

import (
	"cmp"
	"crypto/sha256"
	"encoding/hex"
	"fmt"
	"maps"
	"math"
	"regexp"
	"slices"
	"strconv"
	"strings"
	"testing"

	"admission/api"
)

// The model of the chapter, from its text and apart from the package.

const (
	maxNumber = 1099511627776
	oneName   = `[a-z0-9][a-z0-9._-]{0,63}`
	component = `(?:[^/.\x00][^/\x00]*|\.[^/.\x00][^/\x00]*|\.\.[^/\x00]+)`
)

var (
	nameForm  = regexp.MustCompile(`\A` + oneName + `\z`)
	scopeForm = regexp.MustCompile(`\A(?:` + oneName + `(?:/` + oneName + `){0,3})?\z`)
	pathForm  = regexp.MustCompile(`(?s)\A` + component + `(?:/` + component + `)*\z`)
)

// strictlySorted reports whether l is in ascending order without equal elements.
func strictlySorted(l []string) bool {
	return slices.Equal(l, slices.Compact(slices.Sorted(slices.Values(l))))
}

func modelSnapshot(s []api.Entry) bool {
	var paths []string
	for _, x := range s {
		paths = append(paths, x.Path)
		if len(x.Path) > 200 || !pathForm.MatchString(x.Path) || x.Digest == (api.Digest{}) {
			return false
		}
	}
	return len(s) <= 64 && strictlySorted(paths)
}

func modelValid(r api.Record) bool {
	var names []string
	for _, v := range r.Env {
		names = append(names, v.Name)
		if !nameForm.MatchString(v.Name) || len(v.Value) > 200 {
			return false
		}
	}
	for _, w := range r.Command {
		if len(w) > 200 {
			return false
		}
	}
	if len(r.Command) > 16 || len(r.Env) > 16 || r.At < 0 || r.At > maxNumber {
		return false
	}
	return nameForm.MatchString(r.Run) && nameForm.MatchString(r.Step) && scopeForm.MatchString(r.Scope) && strictlySorted(names) && modelSnapshot(r.Materials) && modelSnapshot(r.Products)
}

// modelLine returns the encoded form of a line.
func modelLine(words ...any) string {
	var out []string
	for _, w := range words {
		out = append(out, modelWord(fmt.Sprint(w)))
	}
	return strings.Join(out, " ") + "\n"
}

func modelWord(w string) string {
	var out strings.Builder
	for _, c := range []byte(w) {
		if 0x21 <= c && c <= 0x7d && c != '%' {
			out.WriteByte(c)
		} else {
			fmt.Fprintf(&out, "%%%02X", c)
		}
	}
	return cmp.Or(out.String(), "~")
}

// formOf returns the text of a Digest.
func formOf(d api.Digest) string { return "sha256:" + hex.EncodeToString(d[:]) }

// modelText returns the encoded form of r.
func modelText(r api.Record) string {
	var out strings.Builder
	out.WriteString(modelLine("record", r.Run, r.Scope, r.Step, r.At))
	words := []any{"command"}
	for _, w := range r.Command {
		words = append(words, w)
	}
	out.WriteString(modelLine(words...))
	for _, v := range r.Env {
		out.WriteString(modelLine("env", v.Name, v.Value))
	}
	for _, x := range r.Materials {
		out.WriteString(modelLine("material", x.Path, formOf(x.Digest)))
	}
	for _, x := range r.Products {
		out.WriteString(modelLine("product", x.Path, formOf(x.Digest)))
	}
	return out.String()
}

// The forms of words and numbers.
const (
	wordForm   = `(?:~|(?:[!-$&-}]|%(?:[01][0-9A-F]|20|25|7[EF]|[89A-F][0-9A-F]))+)`
	numberForm = `(?:0|[1-9][0-9]*)`
	digestForm = `sha256:[0-9a-f]{64}`
)

var textForm = regexp.MustCompile(`\Arecord ` + wordForm + ` ` + wordForm + ` ` + wordForm + ` ` + numberForm + `\n` +
	`command(?: ` + wordForm + `)*\n` +
	`(?:env ` + wordForm + ` ` + wordForm + `\n)*` +
	`(?:material ` + wordForm + ` ` + digestForm + `\n)*` +
	`(?:product ` + wordForm + ` ` + digestForm + `\n)*\z`)

// modelUnword returns the word of a form.
func modelUnword(form string) string {
	if form == "~" {
		return ""
	}
	var out strings.Builder
	for len(form) > 0 {
		c, n := uint64(form[0]), 1
		if c == '%' {
			c, _ = strconv.ParseUint(form[1:3], 16, 8)
			n = 3
		}
		out.WriteByte(byte(c))
		form = form[n:]
	}
	return out.String()
}

// modelRead returns the record of a text, and the error of reading it.
func modelRead(text string) (api.Record, api.Errno) {
	if len(text) > 262144 {
		return api.Record{}, api.ErrLimit
	}
	if !textForm.MatchString(text) || strings.Count(text, "\n") > 1000 {
		return api.Record{}, api.ErrSyntax
	}
	var r api.Record
	good := true
	for line := range strings.Lines(text) {
		words := strings.Split(strings.TrimSuffix(line, "\n"), " ")
		for i, w := range words {
			words[i] = modelUnword(w)
			good = good && len(words[i]) <= 32768 && len(words) <= 120
		}
		switch words[0] {
		case "record":
			at, err := strconv.ParseInt(words[4], 10, 64)
			good = good && err == nil && at <= maxNumber
			r.Run, r.Scope, r.Step, r.At = words[1], words[2], words[3], at
		case "command":
			r.Command = words[1:]
		case "env":
			r.Env = append(r.Env, api.Variable{Name: words[1], Value: words[2]})
		case "material":
			r.Materials = append(r.Materials, modelEntry(words))
		case "product":
			r.Products = append(r.Products, modelEntry(words))
		}
	}
	switch {
	case !good:
		return api.Record{}, api.ErrSyntax
	case !modelValid(r):
		return api.Record{}, api.ErrInvalid
	}
	return r, api.OK
}

func modelEntry(words []string) api.Entry {
	x := api.Entry{Path: words[1]}
	hex.Decode(x.Digest[:], []byte(words[2][7:]))
	return x
}

// table returns the Digests of s by their paths.
func table(s []api.Entry) map[string]api.Digest {
	m := map[string]api.Digest{}
	for _, x := range s {
		m[x.Path] = x.Digest
	}
	return m
}

func modelChanges(l api.Link) ([]api.Change, api.Errno) {
	if !modelSnapshot(l.Materials) || !modelSnapshot(l.Products) {
		return nil, api.ErrInvalid
	}
	before, after := table(l.Materials), table(l.Products)
	both := maps.Clone(before)
	maps.Copy(both, after)
	var out []api.Change
	for _, path := range slices.Sorted(maps.Keys(both)) {
		if before[path] != after[path] {
			out = append(out, api.Change{Path: path, Old: before[path], New: after[path]})
		}
	}
	return out, api.OK
}

// some returns a Digest for each number.
func some(n int) api.Digest { return sha256.Sum256(fmt.Append(nil, n)) }

// files returns an entry for each of the paths.
func files(first int, paths ...string) []api.Entry {
	var s []api.Entry
	for i, path := range paths {
		s = append(s, api.Entry{Path: path, Digest: some(first + i)})
	}
	return s
}

// variables returns variables, each of them written as its name, '=' and its value.
func variables(words ...string) []api.Variable {
	var l []api.Variable
	for _, w := range words {
		name, value, _ := strings.Cut(w, "=")
		l = append(l, api.Variable{Name: name, Value: value})
	}
	return l
}

// sample returns a record of a delegated step.
func sample() api.Record {
	return api.Record{
		Run: "run-1", Scope: "outer/inner.2", Step: "build", At: 7,
		Command:   []string{"cc", "", "-o a", "record"},
		Env:       variables("lang=", "path=x y", "z=100%"),
		Materials: files(1, "Makefile", "src/a.c", "src/b.c"),
		Products:  files(3, "out/a", "src/b.c", "~ %"),
	}
}

// smallest returns the record with the least of everything.
func smallest() api.Record { return api.Record{Run: "r", Step: "s"} }

// numbered returns n texts in ascending order.
func numbered(prefix string, n int) []string {
	var out []string
	for i := range n {
		out = append(out, fmt.Sprintf("%s%03d", prefix, i))
	}
	return out
}

// many returns a record with so many of everything.
func many(command, env, materials, products int) api.Record {
	return api.Record{
		Run: "run", Scope: "a/b/c/d", Step: "step", At: maxNumber,
		Command:   numbered("word", command),
		Env:       variables(numbered("name", env)...),
		Materials: files(0, numbered("m/", materials)...),
		Products:  files(1000, numbered("p/", products)...),
	}
}

// widest returns a record with the longest encoded form: nothing can be added, and each byte that may be any byte is escaped.
func widest() api.Record {
	name := func(i int) string { return fmt.Sprintf("%064d", i) }
	path := func(i int) string { return string([]byte{byte(0x80 + i)}) + strings.Repeat("\xff", 199) }
	r := api.Record{Run: name(0), Step: name(1), At: maxNumber, Scope: strings.Join([]string{name(2), name(3), name(4), name(5)}, "/")}
	for i := range 16 {
		r.Command = append(r.Command, strings.Repeat("~", 200))
		r.Env = append(r.Env, api.Variable{Name: name(i), Value: strings.Repeat("\x00", 200)})
	}
	for i := range 64 {
		r.Materials = append(r.Materials, api.Entry{Path: path(i), Digest: some(i)})
		r.Products = append(r.Products, api.Entry{Path: path(i), Digest: some(-i)})
	}
	return r
}

// copied returns r in memory of its own.
func copied(r api.Record) api.Record {
	r.Command, r.Env = slices.Clone(r.Command), slices.Clone(r.Env)
	r.Materials, r.Products = slices.Clone(r.Materials), slices.Clone(r.Products)
	return r
}

// changed returns r after a change, in memory of its own.
func changed(r api.Record, change func(r *api.Record)) api.Record {
	r = copied(r)
	change(&r)
	return r
}

// numbers returns numbers around all limits.
func numbers() []int64 {
	l := []int64{math.MinInt64, math.MinInt64 + 1, -maxNumber, math.MinInt32, -2, -1, 0, 1, 2, 16, 17, 64, 65, 255, 256, math.MaxInt32, math.MaxInt32 + 1, 1 << 32}
	return append(l, maxNumber-1, maxNumber, maxNumber+1, maxNumber+2, 2*maxNumber, math.MaxInt64-1, math.MaxInt64)
}

func equal(a, b api.Record) bool {
	return a.Run == b.Run && a.Scope == b.Scope && a.Step == b.Step && a.At == b.At && slices.Equal(a.Command, b.Command) && slices.Equal(a.Env, b.Env) && slices.Equal(a.Materials, b.Materials) && slices.Equal(a.Products, b.Products)
}

// expect checks a result that is a record and an error: without the error it is want, with an error it is zero.
func expect(t *testing.T, name string, got api.Record, errno api.Errno, want api.Record, wantErrno api.Errno) {
	t.Helper()
	if wantErrno != api.OK {
		want = api.Record{}
	}
	if errno != wantErrno || !equal(got, want) {
		t.Errorf("%s: %d %.300q, want %d %.300q", name, errno, fmt.Sprint(got), wantErrno, fmt.Sprint(want))
	}
}

// named is a record with a name.
type named struct {
	name string
	r    api.Record
}

// permutations calls visit with every order of l.
func permutations[T any](l []T, visit func([]T)) {
	if len(l) == 0 {
		visit(nil)
		return
	}
	for i := range l {
		rest := slices.Delete(slices.Clone(l), i, i+1)
		permutations(rest, func(tail []T) { visit(append([]T{l[i]}, tail...)) })
	}
}

// every calls visit with every text of at most n bytes of alphabet.
func every(alphabet string, n int, visit func(string)) {
	last := []string{""}
	for range n + 1 {
		var next []string
		for _, s := range last {
			visit(s)
			for i := range len(alphabet) {
				next = append(next, s+alphabet[i:i+1])
			}
		}
		last = next
	}
}
