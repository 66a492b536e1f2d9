package snapshot_test

import (
	"crypto/sha256"
	"encoding/hex"
	"fmt"
	"slices"
	"strings"
	"testing"

	"admission/api"
	"admission/document"
	"admission/snapshot"
)

// formOf returns the text of a Digest.
func formOf(d api.Digest) string { return "sha256:" + hex.EncodeToString(d[:]) }

// tags returns words of all sorts.
func tags() []string {
	return []string{"file", "material", "product", "", " ", "a b", "\n", "~", "%", "\x00", "\xff", long(1 << 16)}
}

// Promise 4.7: Lines has a line for each entry, in order, and Read returns the entries.
func TestLines(t *testing.T) {
	for _, s := range snapshots() {
		for _, tag := range tags() {
			lines := snapshot.Lines(tag, s)
			if len(lines) != len(s) {
				t.Fatalf("%d lines of %s", len(lines), brief(s))
			}
			for i, line := range lines {
				if want := []string{tag, s[i].Path, formOf(s[i].Digest)}; !slices.Equal(line, want) {
					t.Errorf("%.60q, want %.60q", line, want)
				}
			}
			got, e := snapshot.Read(tag, lines)
			expect(t, "Read", got, e, s, api.OK)
		}
	}
}

// Promise 4.7: Lines of lists that are not valid snapshots, which Read does not accept.
func TestLinesOfOtherLists(t *testing.T) {
	for name, s := range notSnapshots() {
		lines := snapshot.Lines("file", s)
		if len(lines) != len(s) {
			t.Fatalf("%s: %d lines", name, len(lines))
		}
		for i, line := range lines {
			if want := []string{"file", s[i].Path, formOf(s[i].Digest)}; !slices.Equal(line, want) {
				t.Errorf("%s: %.60q, want %.60q", name, line, want)
			}
		}
		got, e := snapshot.Read("file", lines)
		expect(t, name, got, e, nil, api.ErrInvalid)
	}
	if lines := snapshot.Lines("file", files("a=0")); lines[0][2] != "sha256:"+strings.Repeat("0", 64) {
		t.Errorf("%q", lines)
	}
}

// Promise 4.7, rule R5: the errors of Read, also where the entries would not be valid.
func TestErrorsOfRead(t *testing.T) {
	good, other := formOf(some(1)), formOf(some(2))
	zero := formOf(api.Digest{})
	tests := []struct {
		name  string
		lines [][]string
		e     api.Errno
	}{
		{"no words", [][]string{{}}, api.ErrSyntax},
		{"one word", [][]string{{"file"}}, api.ErrSyntax},
		{"two words", [][]string{{"file", "a"}}, api.ErrSyntax},
		{"two words with a digest", [][]string{{"file", good}}, api.ErrSyntax},
		{"four words", [][]string{{"file", "a", good, ""}}, api.ErrSyntax},
		{"four words, two digests", [][]string{{"file", "a", good, good}}, api.ErrSyntax},
		{"another tag", [][]string{{"material", "a", good}}, api.ErrSyntax},
		{"an empty tag", [][]string{{"", "a", good}}, api.ErrSyntax},
		{"a longer tag", [][]string{{"files", "a", good}}, api.ErrSyntax},
		{"a shorter tag", [][]string{{"fil", "a", good}}, api.ErrSyntax},
		{"an upper case tag", [][]string{{"File", "a", good}}, api.ErrSyntax},
		{"an empty digest", [][]string{{"file", "a", ""}}, api.ErrSyntax},
		{"no prefix", [][]string{{"file", "a", good[7:]}}, api.ErrSyntax},
		{"upper case digits", [][]string{{"file", "a", "sha256:" + strings.Repeat("AB", 32)}}, api.ErrSyntax},
		{"a digit too few", [][]string{{"file", "a", good[:len(good)-1]}}, api.ErrSyntax},
		{"a digit too many", [][]string{{"file", "a", good + "0"}}, api.ErrSyntax},
		{"path and digest exchanged", [][]string{{"file", good, "a"}}, api.ErrSyntax},
		{"the second line has two words", [][]string{{"file", "a", good}, {"file", "b"}}, api.ErrSyntax},
		{"the second line has another tag", [][]string{{"file", "a", good}, {"product", "b", good}}, api.ErrSyntax},
		{"the last digest is none", [][]string{{"file", "a", good}, {"file", "b", good}, {"file", "c", "x"}}, api.ErrSyntax},
		{"descending", [][]string{{"file", "b", good}, {"file", "a", good}}, api.ErrInvalid},
		{"twice", [][]string{{"file", "a", good}, {"file", "a", other}}, api.ErrInvalid},
		{"no path", [][]string{{"file", "a/", good}}, api.ErrInvalid},
		{"an empty path", [][]string{{"file", "", good}}, api.ErrInvalid},
		{"a zero Digest", [][]string{{"file", "a", zero}}, api.ErrInvalid},
		{"descending, then no digest", [][]string{{"file", "b", good}, {"file", "a", good}, {"file", "c", "x"}}, api.ErrSyntax},
		{"twice, then four words", [][]string{{"file", "a", good}, {"file", "a", good}, {"file", "b", good, good}}, api.ErrSyntax},
		{"no path, then another tag", [][]string{{"file", "/", good}, {"product", "b", good}}, api.ErrSyntax},
		{"a zero Digest, then one word", [][]string{{"file", "a", zero}, {"file"}}, api.ErrSyntax},
		{"too many, then one word", append(snapshot.Lines("file", many(api.MaxEntries+1)), []string{"file"}), api.ErrSyntax},
		{"too many", snapshot.Lines("file", many(api.MaxEntries+1)), api.ErrInvalid},
		{"no lines", nil, api.OK},
	}
	for _, x := range tests {
		got, e := snapshot.Read("file", x.lines)
		expect(t, x.name, got, e, nil, x.e)
	}
	got, e := snapshot.Read("file", snapshot.Lines("file", many(api.MaxEntries)))
	expect(t, "as many as there may be", got, e, many(api.MaxEntries), api.OK)
}

// Promise 4.8: the examples, and the encoded form written out by hand.
func TestRevision(t *testing.T) {
	one, two := formOf(some(1)), formOf(some(2))
	tests := []struct {
		s    []api.Entry
		text string
	}{
		{nil, ""},
		{[]api.Entry{}, ""},
		{files("a=1"), "file a " + one + "\n"},
		{files("a=1", "b=2"), "file a " + one + "\nfile b " + two + "\n"},
		{files("a b=1", "~/%=2"), "file a%20b " + one + "\nfile %7E/%25 " + two + "\n"},
		{files("\n=2"), "file %0A " + two + "\n"},
		{files("\xff\xc3=2"), "file %FF%C3 " + two + "\n"},
		{files("~=1"), "file %7E " + one + "\n"},
	}
	for _, x := range tests {
		if got := snapshot.Revision(x.s); got != sha256.Sum256([]byte(x.text)) {
			t.Errorf("Revision of %s: %x", brief(x.s), got)
		}
	}
}

// longest returns the snapshot with the longest encoded form.
func longest() []api.Entry {
	var s []api.Entry
	for i := range api.MaxEntries {
		path := strings.Repeat("\x01", api.MaxPath-1) + string([]byte{byte(0x80 + i)})
		s = append(s, api.Entry{Path: path, Digest: some(i + 1)})
	}
	return s
}

// Promise 4.8: Revision has a document for every snapshot, however long its paths are.
func TestRevisionOfLongPaths(t *testing.T) {
	for _, s := range append(snapshots(), longest()) {
		b, e := document.Encode(snapshot.Lines("file", s))
		if e != api.OK {
			t.Fatal(e)
		}
		if got := snapshot.Revision(s); got != sha256.Sum256(b) {
			t.Errorf("Revision of %s: %x", brief(s), got)
		}
	}
}

// Promise 4.8: different snapshots have different revisions, and lists that are not valid have none.
func TestRevisionsDiffer(t *testing.T) {
	seen := map[api.Digest]string{}
	for _, s := range append(snapshots(), files("a=2"), files("a=1", "b=2"), files("a=2", "b=1"), files("a=1", "c=1"), many(2), longest()) {
		text := fmt.Sprintf("%q", snapshot.Lines("", s))
		r := snapshot.Revision(s)
		if r == (api.Digest{}) {
			t.Errorf("no revision of %s", brief(s))
		}
		if other, ok := seen[r]; ok && other != text {
			t.Errorf("%.100s has the revision of %.100s", text, other)
		}
		seen[r] = text
	}
	for name, s := range notSnapshots() {
		if got := snapshot.Revision(s); got != (api.Digest{}) {
			t.Errorf("%s: %x", name, got)
		}
	}
}
