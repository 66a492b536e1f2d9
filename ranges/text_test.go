package ranges_test

import (
	"fmt"
	"math/rand/v2"
	"regexp"
	"slices"
	"strings"
	"testing"

	"admission/api"
	"admission/ranges"
	"admission/version"
)

// expectText checks Format of r, and that Parse of the text returns r.
func expectText(t *testing.T, r api.RangeSet, want string) {
	t.Helper()
	got, e := ranges.Format(r)
	if e != api.OK || got != want {
		t.Fatalf("text of %v: %q, error %d, want %q", r, got, e, want)
	}
	back, e := ranges.Parse(r.Scheme, got)
	expectSet(t, "parsed "+got, back, e, r, api.OK)
}

// expectParsed checks Parse of s.
func expectParsed(t *testing.T, scheme int, s string, want api.RangeSet, wantErr api.Errno) {
	t.Helper()
	got, e := ranges.Parse(scheme, s)
	expectSet(t, fmt.Sprintf("scheme %d: parsed %.100q", scheme, s), got, e, want, wantErr)
}

// Promise 7.5: the text of each sort of interval, and of several.
func TestFormat(t *testing.T) {
	tests := []struct {
		r    api.RangeSet
		want string
	}{
		{dotted(), "none"}, {dotted(api.Interval{}), "*"}, {api.RangeSet{Scheme: api.Semver}, "none"}, {api.RangeSet{Scheme: api.Debian, Intervals: []api.Interval{{}}}, "*"},
		{dotted(from("1")), ">=1"}, {dotted(above("1")), ">1"}, {dotted(upTo("1")), "<=1"}, {dotted(below("1")), "<1"},
		{dotted(bounded(from("1"), upTo("2"))), ">=1 <=2"}, {dotted(bounded(from("1"), below("2"))), ">=1 <2"}, {dotted(bounded(above("1"), upTo("2"))), ">1 <=2"}, {dotted(bounded(above("1"), below("2"))), ">1 <2"},
		{dotted(bounded(from("1"), upTo("1"))), "=1"}, {dotted(bounded(from("01.0"), upTo("01.0"))), "=01.0"}, {dotted(bounded(from("1"), upTo("1.0"))), ">=1 <=1.0"}, {dotted(bounded(from("1.0"), upTo("1"))), ">=1.0 <=1"},
		{dotted(below("1"), above("1")), "<1 || >1"}, {dotted(upTo("0"), bounded(from("1.5"), upTo("1.5")), bounded(above("2"), below("3")), from("4.0")), "<=0 || =1.5 || >2 <3 || >=4.0"},
		{points(3), "=1 || =2 || =3"},
		{api.RangeSet{Scheme: api.Semver, Intervals: []api.Interval{bounded(from("1.0.0-a.1+b"), below("1.0.0"))}}, ">=1.0.0-a.1+b <1.0.0"},
		{api.RangeSet{Scheme: api.Semver, Intervals: []api.Interval{bounded(from("1.0.0+a"), upTo("1.0.0+b"))}}, ">=1.0.0+a <=1.0.0+b"},
		{api.RangeSet{Scheme: api.Debian, Intervals: []api.Interval{upTo("1:0~"), above("2:1-1")}}, "<=1:0~ || >2:1-1"},
	}
	for _, x := range tests {
		expectText(t, x.r, x.want)
	}
	_, e := ranges.Format(api.RangeSet{})
	if e != api.ErrInvalid {
		t.Errorf("text of no set: error %d", e)
	}
	r, _ := ranges.Parse(api.Semver, ">=1.0.0 <2.0.0")
	r, _ = ranges.Complement(r)
	expectText(t, r, "<1.0.0 || >=2.0.0")
}

// describedText returns the text of a set as the chapter describes it.
func describedText(r api.RangeSet) string {
	var texts []string
	for _, i := range r.Intervals {
		low := map[int]string{api.Unbounded: "", api.Closed: ">=" + i.Low, api.Open: ">" + i.Low}[i.LowKind]
		high := map[int]string{api.Unbounded: "", api.Closed: "<=" + i.High, api.Open: "<" + i.High}[i.HighKind]
		s := strings.TrimSpace(low + " " + high)
		if s == "" {
			s = "*"
		}
		if s == ">="+i.Low+" <="+i.Low {
			s = "=" + i.Low
		}
		texts = append(texts, s)
	}
	if texts == nil {
		return "none"
	}
	return strings.Join(texts, " || ")
}

// Promises 7.5 and 7.7: the texts of every set of the parts of a ladder, and of sets with many intervals.
func TestTextsOfSets(t *testing.T) {
	random := rand.New(rand.NewPCG(7, 50))
	for _, l := range ladders() {
		for _, parts := range l.everySet() {
			for range 5 {
				r := l.set(l.spelled(random, parts))
				expectText(t, r, describedText(r))
			}
		}
	}
	l := longLadder(70)
	for range 500 {
		r := l.set(l.spelled(random, l.randomSet(random, 1+random.IntN(2*api.MaxIntervals))))
		expectText(t, r, describedText(r))
	}
}

// Promises 7.5 and 7.7: the longest text that a set has.
func TestLongestText(t *testing.T) {
	var l []api.Interval
	for k := range api.MaxIntervals {
		low := fmt.Sprintf("%d.%s", 1000+k, strings.Repeat("0", api.MaxVersion-5))
		l = append(l, bounded(from(low), upTo(low[:api.MaxVersion-1]+"1")))
	}
	r := dotted(l...)
	expectText(t, r, describedText(r))
	text, _ := ranges.Format(r)
	if want := api.MaxIntervals*(2*api.MaxVersion+5) + (api.MaxIntervals-1)*4; len(text) != want || len(text) > api.MaxRange {
		t.Errorf("%d bytes, want %d", len(text), want)
	}
}

// Promise 7.6: conditions, alternatives, and the strings of the bounds that remain.
func TestParse(t *testing.T) {
	tests := []struct {
		scheme  int
		s, want string
	}{
		{api.Dotted, "none", "none"}, {api.Dotted, "*", "*"}, {api.Dotted, "none || none", "none"}, {api.Dotted, "* || none", "*"}, {api.Dotted, "none || *", "*"}, {api.Dotted, "* || *", "*"},
		{api.Dotted, "=1", "=1"}, {api.Dotted, "<1", "<1"}, {api.Dotted, "<=1", "<=1"}, {api.Dotted, ">1", ">1"}, {api.Dotted, ">=1", ">=1"},
		{api.Dotted, ">=1 <2", ">=1 <2"}, {api.Dotted, "<2 >=1", ">=1 <2"}, {api.Dotted, ">0 >=1 <9 <=2 >0.5", ">=1 <=2"}, {api.Dotted, ">1 >=1", ">1"}, {api.Dotted, "<2 <=2", "<2"}, {api.Dotted, ">=1 <=1", "=1"},
		{api.Dotted, ">1 <1", "none"}, {api.Dotted, ">=1 <1", "none"}, {api.Dotted, ">1 <=1", "none"}, {api.Dotted, ">2 <1 =1", "none"}, {api.Dotted, "=1 =2", "none"}, {api.Dotted, "=1 =1", "=1"}, {api.Dotted, "=1 >1", "none"}, {api.Dotted, "=1 >=1", "=1"},
		{api.Dotted, "<1 || >1", "<1 || >1"}, {api.Dotted, "<1 || >=1", "*"}, {api.Dotted, "<=1 || >1", "*"}, {api.Dotted, ">1 || =1 || <1", "*"}, {api.Dotted, ">=1 <2 || >=2 <3", ">=1 <3"}, {api.Dotted, ">=3 || =2 || <1", "<1 || =2 || >=3"},
		{api.Dotted, ">1 <1 || =3 || none", "=3"}, {api.Dotted, "<0", "<0"}, {api.Dotted, ">0 <0.0.1", ">0 <0.0.1"},
		// The least of the strings at a cut.
		{api.Dotted, "=1.0 || =1", "=1"}, {api.Dotted, "=1 || =1.0", "=1"}, {api.Dotted, "=1 =1.0", "=1"}, {api.Dotted, ">=1 <=1.0", ">=1 <=1.0"}, {api.Dotted, ">=1.0 <=1", ">=1.0 <=1"}, {api.Dotted, ">=01 || >=1", ">=01"}, {api.Dotted, ">=1 >=01 >=1.0", ">=01"},
		{api.Dotted, ">=1 <=1.0 =01", "=01"}, {api.Dotted, ">=1.0 <=1 || =1.00", ">=1.0 <=1"}, {api.Dotted, "<1 || =1.0 || >1", "*"},
		// What is left out does not count, although its string is less.
		{api.Dotted, ">1 <01 || =1", "=1"}, {api.Dotted, ">01 || =1", ">=1"}, {api.Dotted, ">=1 >0", ">=1"}, {api.Dotted, "=1 || <01", "<=1"},
		{api.Semver, ">=1.0.0 <2.0.0", ">=1.0.0 <2.0.0"}, {api.Semver, "=1.0.0+b || =1.0.0+a", "=1.0.0+a"}, {api.Semver, "<1.0.0 >=1.0.0--", ">=1.0.0-- <1.0.0"}, {api.Debian, "<=1:0~ || >2:1-1", "<=1:0~ || >2:1-1"}, {api.Debian, "=1.0-0 =1.0 || =1.", "=1."},
	}
	for _, x := range tests {
		got, e := ranges.Parse(x.scheme, x.s)
		if e != api.OK || got.Scheme != x.scheme || !ranges.Valid(got) {
			t.Errorf("scheme %d: parsed %q: %v, error %d", x.scheme, x.s, got, e)
			continue
		}
		if text, e := ranges.Format(got); text != x.want || e != api.OK {
			t.Errorf("scheme %d: parsed %q: %q, error %d, want %q", x.scheme, x.s, text, e, x.want)
		}
	}
}

// Promise 7.6: what is no text of a range set, or not of this scheme.
func TestOtherTexts(t *testing.T) {
	texts := []string{
		"", " ", "  ", "1", "1.0.0", "x", "=", "<", "<=", ">", ">=", "= 1.0.0", "> 1.0.0", "==1.0.0", "=>1.0.0", "=<1.0.0", "!=1.0.0", "<>1.0.0", ">>1.0.0", "><1.0.0", "<=>1.0.0", ">==1.0.0", "~1.0.0", "^1.0.0", "1.0.0=", "=1.0.0=", ">=1.0.0<2.0.0", ">=1.0.0,<2.0.0",
		">=1.0.0  <2.0.0", ">=1.0.0 ", " >=1.0.0", ">=1.0.0\t<2.0.0", ">=1.0.0\n<2.0.0", "\n>=1.0.0", ">=1.0.0\n", ">=1.0.0\x00", ">=1.0.0\u00a0<2.0.0",
		">=1.0.0 || ", " || >=1.0.0", " || ", "||", "|| >=1.0.0", ">=1.0.0 ||", ">=1.0.0 | <2.0.0", ">=1.0.0||<2.0.0", ">=1.0.0 ||<2.0.0", ">=1.0.0|| <2.0.0", ">=1.0.0  || <2.0.0", ">=1.0.0 ||  <2.0.0", ">=1.0.0 || || <2.0.0", ">=1.0.0 ||| <2.0.0", ">=1.0.0 ||  || <2.0.0", ">=1.0.0 or <2.0.0",
		"* >=1.0.0", ">=1.0.0 *", "* *", "**", "none >1.0.0", ">1.0.0 none", "none none", "None", "NONE", "non", "nonee", "none ", " none", "none  || *", "=*", "=none", ">*", "(>=1.0.0)", "\">=1.0.0\"", ">=v1.0.0", ">=1.0.0 || x", "x || >=1.0.0", "=1.0.0 || =1.0.0 || =", ">=é", ">=１",
	}
	for _, scheme := range schemes() {
		for _, s := range texts {
			expectParsed(t, scheme, s, api.RangeSet{}, api.ErrSyntax)
		}
	}
	tests := []struct {
		s                      string
		semver, debian, dotted bool
	}{
		{"=1", false, true, true}, {">=01.0.0", false, true, true}, {"<1.0.0-1", true, true, false}, {"<=1.0.0--", true, false, false}, {">1:1", false, true, false}, {"=1..2", false, true, false}, {">" + strings.Repeat("1", api.MaxVersion), false, true, true}, {">" + strings.Repeat("1", api.MaxVersion+1), false, false, false},
		{">=1.0.0 <1.0.0+1", true, true, false}, {"=1.0.0 || =1.0.0~", false, true, false},
	}
	for _, x := range tests {
		for i, want := range []bool{x.semver, x.debian, x.dotted} {
			if got, e := ranges.Parse(schemes()[i], x.s); (e == api.OK) != want || !want && (e != api.ErrSyntax || !same(got, api.RangeSet{})) {
				t.Errorf("scheme %d: parsed %q: %v, error %d", schemes()[i], x.s, got, e)
			}
		}
	}
}

// Promise 7.6, rule R5: a scheme that there is not comes before all other errors, a text that is too long before its form, the form before too many intervals.
func TestErrorsOfParse(t *testing.T) {
	var many []string
	for k := range api.MaxIntervals + 1 {
		many = append(many, fmt.Sprintf("=%d", k))
	}
	long := strings.Repeat("x", api.MaxRange+1)
	tooMany := strings.Join(many, " || ")
	for _, scheme := range notSchemes() {
		for _, s := range []string{"*", "none", "", "x", "=1", long, tooMany} {
			expectParsed(t, scheme, s, api.RangeSet{}, api.ErrScheme)
		}
	}
	for _, scheme := range schemes() {
		expectParsed(t, scheme, long, api.RangeSet{}, api.ErrLimit)
		expectParsed(t, scheme, strings.Repeat("*", 1<<20), api.RangeSet{}, api.ErrLimit)
		expectParsed(t, scheme, long[:api.MaxRange], api.RangeSet{}, api.ErrSyntax)
	}
	expectParsed(t, api.Dotted, tooMany, api.RangeSet{}, api.ErrLimit)
	expectParsed(t, api.Dotted, tooMany+" || x", api.RangeSet{}, api.ErrSyntax)
	expectParsed(t, api.Dotted, "x || "+tooMany, api.RangeSet{}, api.ErrSyntax)
	expectParsed(t, api.Dotted, tooMany+" || ", api.RangeSet{}, api.ErrSyntax)
	expectParsed(t, api.Dotted, tooMany+" || =1 =1-1", api.RangeSet{}, api.ErrSyntax)
}

// Promise 7.6: texts of exactly MaxRange bytes, and of one more.
func TestLengthOfTexts(t *testing.T) {
	s := strings.Repeat("none || ", 1020) + "=1 || =1 || =1 || =1 || =1 || =1"
	if len(s) != api.MaxRange {
		t.Fatalf("%d bytes", len(s))
	}
	expectParsed(t, api.Dotted, s, points(1), api.OK)
	expectParsed(t, api.Dotted, s+"0", api.RangeSet{}, api.ErrLimit)
	conditions := strings.Repeat(">0 ", 2729) + ">0.55"
	if len(conditions) != api.MaxRange {
		t.Fatalf("%d bytes", len(conditions))
	}
	expectParsed(t, api.Dotted, conditions, dotted(above("0.55")), api.OK)
	expectParsed(t, api.Dotted, conditions+"5", api.RangeSet{}, api.ErrLimit)
}

// Promise 7.6: each union may have too many intervals, although a later one would not.
func TestLimitOfUnions(t *testing.T) {
	var l []string
	for k := range api.MaxIntervals + 2 {
		l = append(l, fmt.Sprintf("=%d", k+1))
	}
	full := strings.Join(l[:api.MaxIntervals], " || ")
	expectParsed(t, api.Dotted, full, points(api.MaxIntervals), api.OK)
	expectParsed(t, api.Dotted, full+" || none || >2 <1 || =7 || =32.0", points(api.MaxIntervals), api.OK)
	expectParsed(t, api.Dotted, full+" || *", dotted(api.Interval{}), api.OK)
	expectParsed(t, api.Dotted, full+" || >0 <33 || =33", dotted(bounded(above("0"), upTo("33"))), api.OK)
	expectParsed(t, api.Dotted, full+" || =33", api.RangeSet{}, api.ErrLimit)
	expectParsed(t, api.Dotted, full+" || =33 || *", api.RangeSet{}, api.ErrLimit)
	expectParsed(t, api.Dotted, full+" || =33 || >=1 <=33", api.RangeSet{}, api.ErrLimit)
	expectParsed(t, api.Dotted, "* || "+full+" || =33", dotted(api.Interval{}), api.OK)
	expectParsed(t, api.Dotted, ">=20 || "+full+" || =33 || =34", dotted(append(slices.Clone(points(19).Intervals), from("20"))...), api.OK)
	slices.Reverse(l)
	expectParsed(t, api.Dotted, strings.Join(l[2:], " || "), points(api.MaxIntervals), api.OK)
	expectParsed(t, api.Dotted, strings.Join(l[1:], " || "), api.RangeSet{}, api.ErrLimit)
}

// literally returns what the chapter says of Parse, with the operations that it names; s is a text of a range set of the scheme.
func literally(t *testing.T, scheme int, s string) (api.RangeSet, api.Errno) {
	t.Helper()
	union, _ := ranges.None(scheme)
	for _, part := range strings.Split(s, " || ") {
		set, _ := ranges.All(scheme)
		if part == "none" {
			set, _ = ranges.None(scheme)
		} else if part != "*" {
			for _, c := range strings.Split(part, " ") {
				set = intersect(t, set, single(scheme, c))
			}
		}
		var e api.Errno
		if union, e = ranges.Union(union, set); e != api.OK {
			return api.RangeSet{}, e
		}
	}
	return union, api.OK
}

func intersect(t *testing.T, a, b api.RangeSet) api.RangeSet {
	t.Helper()
	r, e := ranges.Intersect(a, b)
	if e != api.OK {
		t.Fatalf("%v %v: error %d", a, b, e)
	}
	return r
}

// single returns the set of a condition.
func single(scheme int, c string) api.RangeSet {
	var i api.Interval
	switch v := strings.Trim(c, "<=>"); c[:len(c)-len(v)] {
	case "=":
		i = bounded(from(v), upTo(v))
	case "<":
		i = below(v)
	case "<=":
		i = upTo(v)
	case ">":
		i = above(v)
	case ">=":
		i = from(v)
	}
	return api.RangeSet{Scheme: scheme, Intervals: []api.Interval{i}}
}

// expectLiterally checks Parse of s against the operations that the chapter names; isText tells whether s is a text.
func expectLiterally(t *testing.T, scheme int, s string, isText bool) {
	t.Helper()
	if !isText {
		expectParsed(t, scheme, s, api.RangeSet{}, api.ErrSyntax)
		return
	}
	want, e := literally(t, scheme, s)
	expectParsed(t, scheme, s, want, e)
}

// Promise 7.6: all short sequences of what texts are made of, against a description by a regular expression.
func TestEveryShortText(t *testing.T) {
	condition := `(=|<|<=|>|>=)[01]+(\.[01]+)*`
	alternative := `(none|\*|` + condition + `( ` + condition + `)*)`
	form := regexp.MustCompile(`^` + alternative + `( \|\| ` + alternative + `)*$`)
	tokens := []string{"<", "=", ">", "1", "0", ".", " ", "|", " || ", "*", "none", "x"}
	valid := 0
	var extend func(s string, n int)
	extend = func(s string, n int) {
		ok := form.MatchString(s)
		expectLiterally(t, api.Dotted, s, ok)
		if ok {
			valid++
		}
		if n == 0 {
			return
		}
		for _, x := range tokens {
			extend(s+x, n-1)
		}
	}
	depth := 5
	if testing.Short() {
		depth = 3
	}
	extend("", depth)
	extend("<=1", depth-1)
	extend("=1 || >0", depth-1)
	if valid < 50 {
		t.Errorf("only %d texts", valid)
	}
}

// Promise 7.6: long texts that are made at random, with many alternatives and conditions, and what their sets contain.
func TestRandomTexts(t *testing.T) {
	random := rand.New(rand.NewPCG(7, 6))
	limited := 0
	for _, l := range append(ladders(), longLadder(40)) {
		versions := slices.Concat(slices.Concat(l.steps...), slices.Concat(l.gaps...))
		for range 500 {
			s := randomText(random, versions)
			expectLiterally(t, l.scheme, s, true)
			r, e := ranges.Parse(l.scheme, s)
			if e == api.ErrLimit {
				limited++
				continue
			}
			for _, v := range versions {
				if got, want := ranges.Contains(r, v), satisfied(l.scheme, s, v); got != want {
					t.Fatalf("scheme %d: %q contains %q: %t", l.scheme, s, v, got)
				}
			}
		}
	}
	if limited == 0 {
		t.Error("no text has too many intervals")
	}
}

// randomText returns a text of up to 100 alternatives; in every second one nearly all of them are single versions.
func randomText(random *rand.Rand, versions []string) string {
	var alternatives []string
	most, signs := 3, []string{"=", "=", "<", "<=", ">", ">="}
	if random.IntN(2) == 0 {
		most, signs = 1, signs[:1]
	}
	for range 1 + random.IntN(1+random.IntN(100)) {
		var conditions []string
		for range 1 + random.IntN(most) {
			sign := signs[random.IntN(len(signs))]
			conditions = append(conditions, sign+versions[random.IntN(len(versions))])
		}
		s := strings.Join(conditions, " ")
		if random.IntN(30) == 0 {
			s = "none"
		}
		if random.IntN(300) == 0 {
			s = "*"
		}
		alternatives = append(alternatives, s)
	}
	return strings.Join(alternatives, " || ")
}

// satisfied reports whether v satisfies the text s, condition by condition.
func satisfied(scheme int, s, v string) bool {
	for _, part := range strings.Split(s, " || ") {
		all := part != "none"
		for _, c := range strings.Split(part, " ") {
			all = all && (c == "*" || satisfies(scheme, c, v))
		}
		if all {
			return true
		}
	}
	return false
}

func satisfies(scheme int, c, v string) bool {
	bound := strings.Trim(c, "<=>")
	order, _ := version.Compare(scheme, v, bound)
	sign := c[:len(c)-len(bound)]
	return order == 0 && strings.Contains(sign, "=") || order < 0 && strings.Contains(sign, "<") || order > 0 && strings.Contains(sign, ">")
}

// Rules R1 and R6: any strings.
func TestAnyTexts(t *testing.T) {
	random := rand.New(rand.NewPCG(7, 9))
	const alphabet = "<=> |1.*\x00\xffnone:-+~"
	for range 5000 {
		b := make([]byte, random.IntN(60))
		for i := range b {
			b[i] = alphabet[random.IntN(len(alphabet))]
		}
		scheme := random.IntN(5)
		got, e := ranges.Parse(scheme, string(b))
		if (e == api.OK) != ranges.Valid(got) || e != api.OK && !same(got, api.RangeSet{}) {
			t.Fatalf("scheme %d: parsed %q: %v, error %d", scheme, b, got, e)
		}
	}
}
