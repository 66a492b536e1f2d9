package trust_test

import (
	"bytes"
	"cmp"
	"crypto/sha256"
	"encoding/hex"
	"fmt"
	"maps"
	"math"
	"regexp"
	"slices"
	"strconv"
	"strings"
	"testing"

	"admission/api"
)

// The model of the chapter, from its text and apart from the package.

const maxNumber = 1099511627776

func modelID(p api.PublicKey) api.Digest {
	return sha256.Sum256(append([]byte{7, byte(p.Height)}, p.Root[:]...))
}

var nameForm = regexp.MustCompile(`\A[a-z0-9][a-z0-9._-]{0,63}\z`)

// strictlySorted reports whether l is in ascending order without equal elements.
func strictlySorted(l []string) bool {
	return slices.Equal(l, slices.Compact(slices.Sorted(slices.Values(l))))
}

func modelValid(r api.Root) bool {
	if r.Version < 1 || r.Version > maxNumber || r.Expires < 0 || r.Expires > maxNumber {
		return false
	}
	if len(r.Quotas) > 12 || len(r.Keys) > 32 || len(r.Revoked) > 64 {
		return false
	}
	var roles, keys, revoked []string
	rotators := map[string]bool{}
	for _, q := range r.Quotas {
		roles = append(roles, q.Role)
		if !nameForm.MatchString(q.Role) || q.Need < 1 || q.Need > 32 {
			return false
		}
	}
	for _, k := range r.Keys {
		d := modelID(k.Public)
		keys = append(keys, string(d[:]))
		if !modelValidKey(k) {
			return false
		}
		if slices.Contains(k.Roles, "root") {
			rotators[k.Owner] = true
		}
	}
	for _, x := range r.Revoked {
		revoked = append(revoked, string(x.Key[:]))
		if x.At < 0 || x.At > maxNumber {
			return false
		}
	}
	need := slices.IndexFunc(r.Quotas, func(q api.Quota) bool { return q.Role == "root" })
	return need >= 0 && len(rotators) >= r.Quotas[need].Need && strictlySorted(roles) && strictlySorted(keys) && strictlySorted(revoked)
}

func modelValidKey(k api.Key) bool {
	h := k.Public.Height
	if h < 0 || h > 6 || !nameForm.MatchString(k.Owner) || len(k.Roles) < 1 || len(k.Roles) > 12 || !strictlySorted(k.Roles) {
		return false
	}
	for _, role := range k.Roles {
		if !nameForm.MatchString(role) {
			return false
		}
	}
	return 0 <= k.From && k.From < k.Until && k.Until <= maxNumber
}

// modelLine returns the encoded form of a line.
func modelLine(words ...any) string {
	var out []string
	for _, w := range words {
		var word strings.Builder
		for _, c := range []byte(fmt.Sprint(w)) {
			if 0x21 <= c && c <= 0x7d && c != '%' {
				word.WriteByte(c)
			} else {
				fmt.Fprintf(&word, "%%%02X", c)
			}
		}
		out = append(out, cmp.Or(word.String(), "~"))
	}
	return strings.Join(out, " ") + "\n"
}

// modelText returns the encoded form of r.
func modelText(r api.Root) string {
	var out strings.Builder
	out.WriteString(modelLine("root", r.Version, r.Expires))
	for _, q := range r.Quotas {
		out.WriteString(modelLine("quota", q.Role, q.Need))
	}
	for _, k := range r.Keys {
		words := []any{"key", k.Public.Height, hex.EncodeToString(k.Public.Root[:]), k.Owner, k.From, k.Until}
		for _, role := range k.Roles {
			words = append(words, role)
		}
		out.WriteString(modelLine(words...))
	}
	for _, x := range r.Revoked {
		out.WriteString(modelLine("revoked", fmt.Sprintf("sha256:%x", x.Key[:]), x.At))
	}
	return out.String()
}

// The forms of the lines, in words that stand for themselves.
const (
	numberForm = `(?:0|[1-9][0-9]*)`
	wordForm   = `(?:~|[!-$&-}]+)`
)

var textForm = regexp.MustCompile(`\Aroot ` + numberForm + ` ` + numberForm + `\n` +
	`(?:quota ` + wordForm + ` ` + numberForm + `\n)*` +
	`(?:key ` + numberForm + ` [0-9a-f]{32} ` + wordForm + ` ` + numberForm + ` ` + numberForm + `(?: ` + wordForm + `)*\n)*` +
	`(?:revoked sha256:[0-9a-f]{64} ` + numberForm + `\n)*\z`)

// modelRead returns the root document of a text in which no word is longer than a word may be, and no byte is escaped but bytes of words that are no names, which are left out.
func modelRead(text string) (api.Root, api.Errno) {
	if len(text) > 262144 {
		return api.Root{}, api.ErrLimit
	}
	if !textForm.MatchString(text) {
		return api.Root{}, api.ErrSyntax
	}
	var r api.Root
	good := true
	number := func(s string) int64 {
		n, err := strconv.ParseInt(s, 10, 64)
		good = good && err == nil && n <= maxNumber
		return n
	}
	for line := range strings.Lines(text) {
		words := strings.Split(strings.TrimSuffix(line, "\n"), " ")
		good = good && len(words) <= 120
		for i := range words {
			words[i] = strings.TrimPrefix(words[i], "~")
		}
		switch words[0] {
		case "root":
			r.Version, r.Expires = number(words[1]), number(words[2])
		case "quota":
			r.Quotas = append(r.Quotas, api.Quota{Role: words[1], Need: int(number(words[2]))})
		case "key":
			k := api.Key{Owner: words[3], From: number(words[4]), Until: number(words[5]), Roles: words[6:]}
			k.Public.Height = int(number(words[1]))
			hex.Decode(k.Public.Root[:], []byte(words[2]))
			r.Keys = append(r.Keys, k)
		case "revoked":
			x := api.Revocation{At: number(words[2])}
			hex.Decode(x.Key[:], []byte(words[1][7:]))
			r.Revoked = append(r.Revoked, x)
		}
	}
	if !good || strings.Count(text, "\n") > 1000 {
		return api.Root{}, api.ErrSyntax
	}
	if !modelValid(r) {
		return api.Root{}, api.ErrInvalid
	}
	return r, api.OK
}

func modelCounts(r api.Root, key api.Digest, t int64) bool {
	counts := false
	for _, k := range r.Keys {
		if modelID(k.Public) == key && k.From <= t && t < k.Until {
			counts = true
		}
	}
	for _, x := range r.Revoked {
		if x.Key == key && x.At <= t {
			return false
		}
	}
	return counts && t < r.Expires && modelValid(r)
}

func modelVouched(r api.Root, role string, keys []api.Digest, t int64) []string {
	owners := map[string]bool{}
	for _, k := range r.Keys {
		if d := modelID(k.Public); slices.Contains(keys, d) && slices.Contains(k.Roles, role) && modelCounts(r, d, t) {
			owners[k.Owner] = true
		}
	}
	return slices.Sorted(maps.Keys(owners))
}

func modelNeed(r api.Root, role string) int {
	for _, q := range r.Quotas {
		if q.Role == role && modelValid(r) {
			return q.Need
		}
	}
	return 0
}

func modelEnough(r api.Root, role string, keys []api.Digest, t int64) bool {
	need := modelNeed(r, role)
	return need > 0 && need <= len(modelVouched(r, role, keys, t))
}

func modelTimes(r api.Root, keys []api.Digest) []int64 {
	if !modelValid(r) {
		return nil
	}
	times := map[int64]bool{r.Expires: true}
	for _, k := range r.Keys {
		d := modelID(k.Public)
		if !slices.Contains(keys, d) {
			continue
		}
		times[k.From], times[k.Until] = true, true
		for _, x := range r.Revoked {
			if x.Key == d {
				times[x.At] = true
			}
		}
	}
	return slices.Sorted(maps.Keys(times))
}

// facts returns what r says of each key and of each role, as text.
func facts(r api.Root) (keys map[api.Digest]string, roles map[string]string) {
	keys, roles = map[api.Digest]string{}, map[string]string{}
	for _, k := range r.Keys {
		keys[modelID(k.Public)] = fmt.Sprintf("%q %q %d %d", k.Owner, k.Roles, k.From, k.Until)
	}
	for _, x := range r.Revoked {
		keys[x.Key] += fmt.Sprintf(" revoked %d", x.At)
	}
	for _, q := range r.Quotas {
		roles[q.Role] = fmt.Sprint(q.Need)
	}
	return keys, roles
}

// different returns the names that do not have the same fact in a and b.
func different[K comparable](a, b map[K]string) []K {
	out := map[K]bool{}
	for _, m := range []map[K]string{a, b} {
		for name := range m {
			if a[name] != b[name] {
				out[name] = true
			}
		}
	}
	return slices.Collect(maps.Keys(out))
}

func modelChanged(a, b api.Root) ([]api.Digest, []string, bool) {
	if !modelValid(a) || !modelValid(b) {
		return nil, nil, true
	}
	keysA, rolesA := facts(a)
	keysB, rolesB := facts(b)
	keys, roles := different(keysA, keysB), different(rolesA, rolesB)
	slices.SortFunc(keys, compareDigests)
	slices.Sort(roles)
	return keys, roles, a.Expires != b.Expires
}

// modelRotate returns the error of Rotate for the text of a root document.
func modelRotate(r api.Root, text string, keys []api.Digest, t int64) api.Errno {
	if !modelValid(r) {
		return api.ErrInvalid
	}
	next, errno := modelRead(text)
	if errno != api.OK {
		return errno
	}
	if next.Version-1 != r.Version {
		return api.ErrOrder
	}
	for _, x := range r.Revoked {
		if !slices.ContainsFunc(next.Revoked, func(y api.Revocation) bool { return x.Key == y.Key && y.At <= x.At }) {
			return api.ErrInvalid
		}
	}
	if !modelEnough(r, "root", keys, t) || !modelEnough(next, "root", keys, t) {
		return api.ErrSignature
	}
	return api.OK
}

func compareDigests(a, b api.Digest) int { return bytes.Compare(a[:], b[:]) }

// public returns public key number n, of a height that depends on n.
func public(n int) api.PublicKey {
	d := sha256.Sum256(fmt.Append(nil, "public", n))
	return api.PublicKey{Height: n % 7, Root: api.Half(d[:16])}
}

// id returns the ID of key number n.
func id(n int) api.Digest { return modelID(public(n)) }

// ids returns the IDs of keys.
func ids(l ...int) []api.Digest {
	var out []api.Digest
	for _, n := range l {
		out = append(out, id(n))
	}
	return out
}

// key returns key number n.
func key(n int, owner string, from, until int64, roles ...string) api.Key {
	return api.Key{Public: public(n), Owner: owner, Roles: roles, From: from, Until: until}
}

// copied returns r in memory of its own.
func copied(r api.Root) api.Root {
	r.Quotas, r.Keys, r.Revoked = slices.Clone(r.Quotas), slices.Clone(r.Keys), slices.Clone(r.Revoked)
	for i := range r.Keys {
		r.Keys[i].Roles = slices.Clone(r.Keys[i].Roles)
	}
	return r
}

// sorted returns r with all lists but the roles of keys in order, in memory of its own.
func sorted(r api.Root) api.Root {
	r = copied(r)
	slices.SortFunc(r.Quotas, func(x, y api.Quota) int { return strings.Compare(x.Role, y.Role) })
	slices.SortFunc(r.Keys, func(x, y api.Key) int { return compareDigests(modelID(x.Public), modelID(y.Public)) })
	slices.SortFunc(r.Revoked, func(x, y api.Revocation) int { return compareDigests(x.Key, y.Key) })
	return r
}

// changed returns r after a change, with all lists in order.
func changed(r api.Root, change func(r *api.Root)) api.Root {
	r = copied(r)
	change(&r)
	return sorted(r)
}

// sample returns a valid root document: two of anna, bert and dora replace it. The key 3 is revoked before it ends, 5 when it begins and 9 is not one of its keys.
func sample() api.Root {
	return sorted(api.Root{
		Version: 7, Expires: 100,
		Quotas: []api.Quota{{Role: "layout", Need: 1}, {Role: "root", Need: 2}, {Role: "step", Need: 3}},
		Keys: []api.Key{
			key(1, "anna", 0, 50, "layout", "root"),
			key(2, "anna", 10, 200, "root", "step"),
			key(3, "bert", 0, 200, "root"),
			key(4, "cara", 5, 30, "step"),
			key(5, "dora", 20, 100, "layout", "root"),
			key(6, "dora", 0, maxNumber, "root", "step"),
			key(7, "emil", 30, 31, "other", "step"),
		},
		Revoked: []api.Revocation{{Key: id(3), At: 40}, {Key: id(5), At: 20}, {Key: id(9), At: 0}},
	})
}

// where returns the index of key number n in r.
func where(r api.Root, n int) int {
	return slices.IndexFunc(r.Keys, func(k api.Key) bool { return k.Public == public(n) })
}

// names returns n names in ascending order.
func names(n int) []string {
	var out []string
	for i := range n {
		out = append(out, fmt.Sprintf("name-%03d", i))
	}
	return out
}

// many returns a root document with quotas for the role root and for others, with keys, and with revocations of keys and of others. Each key has so many other roles beside root.
func many(quotas, keys, revoked, roles int) api.Root {
	r := api.Root{Version: 1, Expires: maxNumber}
	for i, name := range append([]string{"root"}, names(quotas)...)[:quotas] {
		r.Quotas = append(r.Quotas, api.Quota{Role: name, Need: i%32 + 1})
	}
	for n := range keys {
		r.Keys = append(r.Keys, key(n, fmt.Sprintf("owner%d", n/2), int64(n), maxNumber-int64(n), append(names(roles), "root")...))
	}
	for n := range revoked {
		r.Revoked = append(r.Revoked, api.Revocation{Key: id(3 * n), At: int64(n * n)})
	}
	return sorted(r)
}

// numbers returns numbers around all limits.
func numbers() []int64 {
	l := []int64{math.MinInt64, math.MinInt64 + 1, -maxNumber, math.MinInt32, -2, -1, 0, 1, 2, 31, 32, 33, math.MaxInt32, math.MaxInt32 + 1, 1<<32 - 1, 1 << 32, 1<<32 + 1, 1<<32 + 2}
	return append(l, maxNumber-1, maxNumber, maxNumber+1, maxNumber+2, math.MaxInt64-1, math.MaxInt64)
}

func equalKeys(a, b api.Key) bool {
	return a.Public == b.Public && a.Owner == b.Owner && a.From == b.From && a.Until == b.Until && slices.Equal(a.Roles, b.Roles)
}

func equal(a, b api.Root) bool {
	return a.Version == b.Version && a.Expires == b.Expires && slices.Equal(a.Quotas, b.Quotas) && slices.EqualFunc(a.Keys, b.Keys, equalKeys) && slices.Equal(a.Revoked, b.Revoked)
}

// expect checks a result that is a root document and an error: without the error it is want, with an error it is zero.
func expect(t *testing.T, name string, got api.Root, errno api.Errno, want api.Root, wantErrno api.Errno) {
	t.Helper()
	if wantErrno != api.OK {
		want = api.Root{}
	}
	if errno != wantErrno || !equal(got, want) {
		t.Errorf("%s: %d %v, want %d %v", name, errno, got, wantErrno, want)
	}
}

// named is a root document with a name.
type named struct {
	name string
	r    api.Root
}

// permutations calls visit with every order of l.
func permutations[T any](l []T, visit func([]T)) {
	if len(l) == 0 {
		visit(nil)
		return
	}
	for i := range l {
		rest := slices.Delete(slices.Clone(l), i, i+1)
		permutations(rest, func(tail []T) { visit(append([]T{l[i]}, tail...)) })
	}
}
