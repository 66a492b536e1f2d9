package version_test

import (
	"cmp"
	"fmt"
	"math/big"
	"math/rand/v2"
	"slices"
	"strings"
	"sync"
	"testing"

	"admission/api"
	"admission/version"
)

// schemes returns the schemes that there are.
func schemes() []int { return []int{api.Semver, api.Debian, api.Dotted} }

// notSchemes returns numbers that are no schemes.
func notSchemes() []int {
	return []int{0, 4, -1, 5, 100, 257, 1 << 8, 1<<8 + api.Debian, 1<<16 + api.Semver, 1<<32 + api.Dotted, -1 << 63, 1<<63 - 1}
}

// described describes a scheme apart from package version: which strings are its versions, and how they are ordered.
type described struct {
	scheme  int
	valid   func(v string) bool
	compare func(a, b string) int
}

func descriptions() []described {
	return []described{semver(), debian(), dotted()}
}

// remembered returns f, which then splits each version only once.
func remembered(f func(string) []string) func(string) []string {
	parts := map[string][]string{}
	return func(v string) []string {
		if _, ok := parts[v]; !ok {
			parts[v] = f(v)
		}
		return parts[v]
	}
}

// compareNumbers describes the order of numbers; no digits count as 0.
func compareNumbers(a, b string) int {
	if a == b {
		return 0
	}
	return number(a).Cmp(number(b))
}

func number(digits string) *big.Int {
	n, ok := new(big.Int).SetString("0"+digits, 10)
	if !ok {
		panic(digits)
	}
	return n
}

// texts returns all strings of at most n of the bytes of alphabet, behind a beginning.
func texts(beginning, alphabet string, n int) []string {
	all := []string{beginning}
	for next, round := all, 0; round < n; round++ {
		var longer []string
		for _, s := range next {
			for _, c := range []byte(alphabet) {
				longer = append(longer, s+string([]byte{c}))
			}
		}
		next = longer
		all = append(all, longer...)
	}
	return all
}

// filter returns those of the texts that Valid reports to be versions, and checks each report.
func filter(t *testing.T, d described, all []string) []string {
	t.Helper()
	var out []string
	for _, v := range all {
		got, want := version.Valid(d.scheme, v), d.valid(v)
		if got != want {
			t.Errorf("scheme %d: %q valid: %t", d.scheme, v, got)
		}
		if want {
			out = append(out, v)
		}
	}
	return out
}

// expectKeys checks the keys of all pairs of versions against the description.
func expectKeys(t *testing.T, d described, all []string) {
	t.Helper()
	var keys []string
	for _, v := range all {
		key, e := version.Key(d.scheme, v)
		if e != api.OK {
			t.Fatalf("scheme %d: key of %q: error %d", d.scheme, v, e)
		}
		keys = append(keys, key)
	}
	for i, a := range all {
		for j, b := range all {
			if want := d.compare(a, b); cmp.Compare(keys[i], keys[j]) != want {
				t.Fatalf("scheme %d: %q and %q: keys %q and %q, want %d", d.scheme, a, b, keys[i], keys[j], want)
			}
		}
	}
}

// expectOrder checks Compare of all pairs of versions against the description.
func expectOrder(t *testing.T, d described, all []string) {
	t.Helper()
	for _, a := range all {
		for _, b := range all {
			got, e := version.Compare(d.scheme, a, b)
			if want := d.compare(a, b); e != api.OK || got != want {
				t.Fatalf("scheme %d: %q and %q: %d, error %d, want %d", d.scheme, a, b, got, e, want)
			}
		}
	}
}

// ladder checks versions in ascending order; those of one step are separated by blanks, and equal. It checks the description of the scheme, too.
func ladder(t *testing.T, d described, steps ...string) {
	t.Helper()
	for i, x := range steps {
		for j, y := range steps {
			want := cmp.Compare(i, j)
			for _, a := range strings.Fields(x) {
				for _, b := range strings.Fields(y) {
					if got, e := version.Compare(d.scheme, a, b); e != api.OK || got != want {
						t.Errorf("scheme %d: %q and %q: %d, error %d, want %d", d.scheme, a, b, got, e, want)
					}
					if got := d.compare(a, b); got != want {
						t.Errorf("scheme %d: %q and %q: described as %d, want %d", d.scheme, a, b, got, want)
					}
				}
			}
		}
		all := strings.Fields(x)
		expectKeys(t, d, all)
		filter(t, d, all)
	}
	expectKeys(t, d, strings.Fields(strings.Join(steps, " ")))
}

// expectVersions checks strings that are versions, and the description of the scheme with them.
func expectVersions(t *testing.T, d described, all ...string) {
	t.Helper()
	for _, v := range all {
		if !version.Valid(d.scheme, v) || !d.valid(v) {
			t.Errorf("scheme %d: %q is a version", d.scheme, v)
		}
		if got, e := version.Compare(d.scheme, v, v); got != 0 || e != api.OK {
			t.Errorf("scheme %d: %q and itself: %d, error %d", d.scheme, v, got, e)
		}
	}
}

// expectOthers checks strings that are not versions, and the description of the scheme with them.
func expectOthers(t *testing.T, d described, all ...string) {
	t.Helper()
	for _, v := range all {
		if version.Valid(d.scheme, v) || d.valid(v) {
			t.Errorf("scheme %d: %q is no version", d.scheme, v)
		}
		if key, e := version.Key(d.scheme, v); key != "" || e != api.ErrInvalid {
			t.Errorf("scheme %d: key of %q: %q, error %d", d.scheme, v, key, e)
		}
	}
}

// samples returns versions of each scheme, many of them equal or nearly so.
func samples(scheme int) []string {
	switch scheme {
	case api.Semver:
		return []string{"1.0.0", "0.0.0-0", "1.0.0-alpha.1", "1.0.0+b", "1.0.0-alpha", "1.0.0-1", "1.0.0-alpha+x", "1.0.0-beta.11", "1.0.0-beta.2", "2.0.0", "1.0.0+a", "10.0.0", "1.0.0-11", "1.0.0--", "2.0.0-rc.1", "0.9.9", "1.0.0-alpha.beta", "2.0.0+1"}
	case api.Debian:
		return []string{"1.0", "1.0-1", "1.0~rc1", "0:1.0-0", "1:0.1", "1.", "1.0+b", "1.00", "1.0-1.1", "01:0.1", "1.0a", "1.0~", "1.0~~", "2-~", "2", "1.0-b-1", "000:1.0", "0"}
	}
	return []string{"1", "0", "1.2", "1.0", "01", "1.10", "1.0.1", "2", "1.2.0", "00.0", "1.02", "10", "0.1", "1.0.0.0.0", "1.9", "2.0", "1.0.01", "99999999999999999999"}
}

// Promise 6.1: versions of up to MaxVersion bytes, all of them one number, and one byte more; no version is empty.
func TestLength(t *testing.T) {
	const most = api.MaxVersion
	for _, x := range []struct {
		d           described
		before, end string
	}{
		{semver(), "", ".0.0"}, {semver(), "0.0.", ""}, {semver(), "0.0.0-", ""}, {semver(), "0.0.0-a", ""}, {semver(), "0.0.0+", ""},
		{debian(), "", ""}, {debian(), "", ":0"}, {debian(), "0-", ""}, {debian(), "1:2-", "~"}, {dotted(), "", ""}, {dotted(), "0.", ".0"},
	} {
		for n := 1; n <= most-len(x.before)-len(x.end); n++ {
			v := x.before + strings.Repeat("7", n) + x.end
			expectVersions(t, x.d, v)
		}
		longest := x.before + strings.Repeat("1", most-len(x.before)-len(x.end)) + x.end
		if len(longest) != most {
			t.Fatalf("%q has %d bytes", longest, len(longest))
		}
		expectVersions(t, x.d, longest)
		for _, more := range []int{1, 2, 64, 192, 256, 1000, 1 << 16} {
			expectOthers(t, x.d, x.before+strings.Repeat("1", more)+longest[len(x.before):])
		}
	}
	for _, d := range descriptions() {
		expectOthers(t, d, "", strings.Repeat("0", most+1), strings.Repeat("0.", most))
	}
}

// Promise 6.1: numbers of any length are compared by their value, where each scheme has them.
func TestNumbers(t *testing.T) {
	digits := []string{"0", "1", "2", "9", "10", "11", "19", "20", "99", "100", "101", "255", "256", "257", "65535", "65536", "4294967295", "4294967296", "9223372036854775807", "9223372036854775808", "18446744073709551615", "18446744073709551616", "99999999999999999999", "100000000000000000000", strings.Repeat("9", 55), "1" + strings.Repeat("0", 55), "1" + strings.Repeat("0", 54) + "1", strings.Repeat("2", 56)}
	places := []struct {
		scheme      int
		before, end string
	}{
		{api.Semver, "", ".0.0"}, {api.Semver, "0.", ".0"}, {api.Semver, "0.0.", ""}, {api.Semver, "0.0.0-", ""}, {api.Semver, "0.0.0-a.", ""},
		{api.Debian, "", ":0"}, {api.Debian, "", ""}, {api.Debian, "", "-5"}, {api.Debian, "0a", "~"}, {api.Debian, "0-", ""}, {api.Debian, "0-a", "+"},
		{api.Dotted, "", ""}, {api.Dotted, "", ".5.6"}, {api.Dotted, "0.", ""}, {api.Dotted, "0.3.", ".4"},
	}
	for _, p := range places {
		for i, x := range digits {
			for j, y := range digits {
				a, b := p.before+x+p.end, p.before+y+p.end
				if got, e := version.Compare(p.scheme, a, b); e != api.OK || got != cmp.Compare(i, j) {
					t.Errorf("scheme %d: %q and %q: %d, error %d", p.scheme, a, b, got, e)
				}
				if p.scheme == api.Semver {
					continue
				}
				zeros := p.before + "00" + x + p.end
				if got, e := version.Compare(p.scheme, zeros, b); e != api.OK || got != cmp.Compare(i, j) {
					t.Errorf("scheme %d: %q and %q: %d, error %d", p.scheme, zeros, b, got, e)
				}
			}
		}
	}
}

// Promises 6.2 to 6.5: every byte at every place of a version of each scheme, in place of another and between them.
func TestEveryByte(t *testing.T) {
	for _, d := range descriptions() {
		for _, v := range samples(d.scheme) {
			for i := range len(v) + 1 {
				for c := range 256 {
					s := string([]byte{byte(c)})
					filter(t, d, []string{v[:i] + s + v[i:], v[:i] + s + v[min(i+1, len(v)):]})
				}
			}
		}
	}
}

// Promises 6.2 to 6.5: characters beyond ASCII are neither letters nor digits.
func TestBeyondASCII(t *testing.T) {
	for _, d := range descriptions() {
		for _, s := range []string{"é", "Ａ", "ａ", "１", "٣", "¹", "½", "Ⅳ", "\u0130", "\u212a", "ſ", "\u00a0", "\ufeff", "\u2010", "\xff", "\xc3", "\x00", "\x7f"} {
			expectOthers(t, d, s, "1"+s, s+"1", "1.0.0"+s, "1.0.0-"+s, "1.0.0-a"+s, "1.0.0+"+s, "1."+s, "1:"+s, s+":1", "1-"+s)
		}
	}
}

// Promise 6.5: what is a version under one scheme is not one under another, and none is under a scheme that there is not.
func TestValidByScheme(t *testing.T) {
	tests := []struct {
		v                      string
		semver, debian, dotted bool
	}{
		{"1", false, true, true}, {"1.0", false, true, true}, {"1.0.0", true, true, true}, {"1.0.0.0", false, true, true}, {"01.0.0", false, true, true},
		{"1.0.0-1", true, true, false}, {"1.0.0--", true, false, false}, {"1.0.0-a-b", true, true, false}, {"1.0.0-0a+b", true, true, false}, {"1.0.0+a-", true, false, false},
		{"1:1.0.0", false, true, false}, {"1~", false, true, false}, {"1.", false, true, false}, {"1..2", false, true, false}, {"v1.0.0", false, false, false}, {"", false, false, false},
	}
	for _, x := range tests {
		got := []bool{version.Valid(api.Semver, x.v), version.Valid(api.Debian, x.v), version.Valid(api.Dotted, x.v)}
		if want := []bool{x.semver, x.debian, x.dotted}; !slices.Equal(got, want) {
			t.Errorf("%q: %t, want %t", x.v, got, want)
		}
		for _, scheme := range notSchemes() {
			if version.Valid(scheme, x.v) {
				t.Errorf("scheme %d: %q", scheme, x.v)
			}
		}
	}
}

// Promises 6.5 and 6.6, rules R2 and R5: the errors of Compare and Key, which of them is first, and nothing beside them.
func TestErrors(t *testing.T) {
	bad := []string{"", "x", " 1", "1.0.0 ", "\xff", strings.Repeat("1", api.MaxVersion+1), strings.Repeat("x", 1<<16)}
	for _, scheme := range notSchemes() {
		for _, v := range slices.Concat(bad, samples(api.Semver), samples(api.Debian), samples(api.Dotted)) {
			expectError(t, scheme, v, v, api.ErrScheme)
			expectError(t, scheme, v, "", api.ErrScheme)
			expectError(t, scheme, "1.0.0", v, api.ErrScheme)
		}
	}
	for _, scheme := range schemes() {
		for _, v := range bad {
			expectError(t, scheme, v, v, api.ErrInvalid)
			for _, good := range samples(scheme) {
				expectError(t, scheme, v, good, api.ErrInvalid)
				expectError(t, scheme, good, v, api.ErrInvalid)
			}
		}
	}
}

func expectError(t *testing.T, scheme int, a, b string, want api.Errno) {
	t.Helper()
	if got, e := version.Compare(scheme, a, b); got != 0 || e != want {
		t.Errorf("scheme %d: %.20q and %.20q: %d, error %d, want %d", scheme, a, b, got, e, want)
	}
	if a != b {
		return
	}
	if got, e := version.Key(scheme, a); got != "" || e != want {
		t.Errorf("scheme %d: key of %.20q: %q, error %d, want %d", scheme, a, got, e, want)
	}
}

// Promise 6.7: a stable sort, against the order of the description; Latest is the first of the greatest.
func TestSort(t *testing.T) {
	random := rand.New(rand.NewPCG(6, 7))
	for _, d := range descriptions() {
		pool := samples(d.scheme)
		for round := range 300 {
			l := make([]string, round%40)
			for i := range l {
				l[i] = pool[random.IntN(len(pool))]
			}
			want := slices.Clone(l)
			slices.SortStableFunc(want, d.compare)
			got, e := version.Sort(d.scheme, l)
			if e != api.OK || !slices.Equal(got, want) {
				t.Fatalf("scheme %d: %q: %q, error %d, want %q", d.scheme, l, got, e, want)
			}
			if len(l) > 0 {
				expectLatest(t, d.scheme, l, firstGreatest(d, l), api.OK)
			}
		}
	}
}

// firstGreatest returns the first element of l that is not less than any other one.
func firstGreatest(d described, l []string) string {
	i := slices.IndexFunc(l, func(v string) bool {
		return !slices.ContainsFunc(l, func(w string) bool { return d.compare(v, w) < 0 })
	})
	return l[i]
}

func expectLatest(t *testing.T, scheme int, l []string, want string, wantErr api.Errno) {
	t.Helper()
	if got, e := version.Latest(scheme, l); got != want || e != wantErr {
		t.Errorf("scheme %d: latest of %.20q: %q, error %d, want %q, error %d", scheme, l, got, e, want, wantErr)
	}
}

func expectSorted(t *testing.T, scheme int, l, want []string, wantErr api.Errno) {
	t.Helper()
	if got, e := version.Sort(scheme, l); !slices.Equal(got, want) || e != wantErr {
		t.Errorf("scheme %d: %.20q sorted: %q, error %d, want %q, error %d", scheme, l, got, e, want, wantErr)
	}
}

// Promise 6.7: equal versions keep their order, and the first of the latest ones is returned.
func TestSortOfEqualVersions(t *testing.T) {
	tests := []struct {
		scheme  int
		l, want []string
		latest  string
	}{
		{api.Semver, []string{"1.0.0"}, []string{"1.0.0"}, "1.0.0"},
		{api.Semver, []string{"1.0.0+b", "1.0.0+a", "1.0.0"}, []string{"1.0.0+b", "1.0.0+a", "1.0.0"}, "1.0.0+b"},
		{api.Semver, []string{"2.0.0+z", "1.0.0", "2.0.0", "1.0.0-a", "1.0.0+x", "2.0.0+a"}, []string{"1.0.0-a", "1.0.0", "1.0.0+x", "2.0.0+z", "2.0.0", "2.0.0+a"}, "2.0.0+z"},
		{api.Debian, []string{"1.00", "1.", "1~", "1.0", "0:1.0-0", "1"}, []string{"1~", "1", "1.00", "1.", "1.0", "0:1.0-0"}, "1.00"},
		{api.Debian, []string{"1.0-1", "1.0-01", "1.0-001"}, []string{"1.0-1", "1.0-01", "1.0-001"}, "1.0-1"},
		{api.Dotted, []string{"1.0.0", "01", "1", "0", "1.0", "00"}, []string{"0", "00", "1.0.0", "01", "1", "1.0"}, "1.0.0"},
		{api.Dotted, []string{"3", "2", "1", "0"}, []string{"0", "1", "2", "3"}, "3"},
		{api.Dotted, []string{"0", "1", "1", "2"}, []string{"0", "1", "1", "2"}, "2"},
	}
	for _, x := range tests {
		expectSorted(t, x.scheme, x.l, x.want, api.OK)
		expectLatest(t, x.scheme, x.l, x.latest, api.OK)
	}
}

// Promise 6.7: long lists, most elements of which are equal to others.
func TestSortOfManyVersions(t *testing.T) {
	var l []string
	for i := range 3000 {
		l = append(l, fmt.Sprintf("%d.0%s", 1000-i%1000, strings.Repeat(".0", i/1000)))
	}
	want := slices.Clone(l)
	slices.SortStableFunc(want, dotted().compare)
	expectSorted(t, api.Dotted, l, want, api.OK)
	expectLatest(t, api.Dotted, l, "1000.0", api.OK)
	slices.Reverse(l)
	expectLatest(t, api.Dotted, l, "1000.0.0.0", api.OK)
}

// Promise 6.7, rules R2 and R5: the errors of Sort and Latest, which of them is first, and nothing beside them.
func TestErrorsOfSort(t *testing.T) {
	for _, scheme := range notSchemes() {
		for _, l := range [][]string{nil, {}, {"1.0.0"}, {"x"}, {"1.0.0", ""}} {
			expectSorted(t, scheme, l, nil, api.ErrScheme)
			expectLatest(t, scheme, l, "", api.ErrScheme)
		}
	}
	for _, scheme := range schemes() {
		for _, l := range [][]string{nil, {}} {
			expectSorted(t, scheme, l, nil, api.OK)
			expectLatest(t, scheme, l, "", api.ErrMissing)
		}
		for _, bad := range []string{"", "x", "1.0.0 ", strings.Repeat("1", api.MaxVersion+1)} {
			for i := range 3 {
				l := []string{"1.0.0", "3.0.0", "2.0.0"}
				l[i] = bad
				expectSorted(t, scheme, l, nil, api.ErrInvalid)
				expectLatest(t, scheme, l, "", api.ErrInvalid)
			}
			expectSorted(t, scheme, []string{bad}, nil, api.ErrInvalid)
			expectLatest(t, scheme, []string{bad}, "", api.ErrInvalid)
		}
	}
}

// Promise 6.8: of any two versions one is less or they are equal, and both relations are transitive.
func TestTotalOrder(t *testing.T) {
	for _, d := range descriptions() {
		all := samples(d.scheme)
		order := func(a, b string) int {
			got, e := version.Compare(d.scheme, a, b)
			if e != api.OK {
				t.Fatalf("scheme %d: %q and %q: error %d", d.scheme, a, b, e)
			}
			return got
		}
		equal := 0
		for _, a := range all {
			for _, b := range all {
				ab := order(a, b)
				if ab != -order(b, a) || ab < -1 || ab > 1 || a == b && ab != 0 {
					t.Errorf("scheme %d: %q and %q: %d and %d", d.scheme, a, b, ab, order(b, a))
				}
				if ab == 0 && a != b {
					equal++
				}
				for _, c := range all {
					if bc := order(b, c); ab == bc && order(a, c) != ab {
						t.Errorf("scheme %d: %q, %q, %q: %d, %d and %d", d.scheme, a, b, c, ab, bc, order(a, c))
					}
				}
			}
		}
		if equal == 0 {
			t.Errorf("scheme %d: no different strings are equal", d.scheme)
		}
	}
}

// Rule R4: Sort and Latest leave their list as it is, and the memory behind its length; what Sort returns is a list of its own.
func TestArgumentsStay(t *testing.T) {
	for _, d := range descriptions() {
		whole := append(slices.Clone(samples(d.scheme)), "9.9.9", "behind", "")
		before := slices.Clone(whole)
		l := whole[: len(whole)-3 : len(whole)-1]
		first, e := version.Sort(d.scheme, l)
		if e != api.OK {
			t.Fatalf("scheme %d: error %d", d.scheme, e)
		}
		want := slices.Clone(first)
		expectLatest(t, d.scheme, l, firstGreatest(d, l), api.OK)
		for i := range first {
			first[i] = "changed"
		}
		_ = append(first, "appended")
		if !slices.Equal(whole, before) {
			t.Errorf("scheme %d: %q, and before %q", d.scheme, whole, before)
		}
		expectSorted(t, d.scheme, l, want, api.OK)
		sorted := slices.Clone(want)
		got, _ := version.Sort(d.scheme, sorted)
		got[0] = "changed"
		if !slices.Equal(sorted, want) {
			t.Errorf("scheme %d: a sorted list shares memory", d.scheme)
		}
	}
}

// Rules R1, R3 and R6: any strings, the same results again, and from several goroutines at once.
func TestAnyStrings(t *testing.T) {
	random := rand.New(rand.NewPCG(6, 8))
	var pool []string
	for range 500 {
		b := make([]byte, random.IntN(80))
		for i := range b {
			b[i] = "019.-+~:aZ\x00\xff \n"[random.IntN(14)]
		}
		pool = append(pool, string(b), "1.0.0-"+string(b), "1:2"+string(b))
	}
	results := make([]string, 4)
	var group sync.WaitGroup
	for worker := range results {
		group.Go(func() {
			var b strings.Builder
			for i, v := range pool {
				scheme := i % 5
				got, e := version.Compare(scheme, v, pool[(i+5)%len(pool)])
				key, f := version.Key(scheme, v)
				fmt.Fprintln(&b, got, e, key, f, version.Valid(scheme, v))
			}
			results[worker] = b.String()
		})
	}
	group.Wait()
	for _, r := range results {
		if r != results[0] {
			t.Error("results differ")
		}
	}
	for _, d := range descriptions() {
		valid := filter(t, d, pool)
		if len(valid) < 3 && d.scheme != api.Dotted {
			t.Errorf("scheme %d: only %d versions", d.scheme, len(valid))
		}
		expectKeys(t, d, valid)
	}
}
