package scan

import (
	"slices"
	"strings"
	"testing"

	"interleave/api"
)

// checkPlaces requires P2.2 of the tokens of s.
func checkPlaces(t *testing.T, s string, l []api.Token) {
	t.Helper()
	end := 0
	for _, x := range l {
		stands := x.At >= 0 && x.At < len(s) && x.Text != "" && strings.HasPrefix(s[x.At:], x.Text)
		inserted := x.At >= 0 && x.At < len(s) && s[x.At] == '\n' && x.Text == ";" && x.Kind == api.TokOperator
		if x.At < end || !stands && !inserted {
			t.Fatalf("%.60q: %s", s, show(l))
		}
		end = x.At + len(x.Text)
	}
}

// P2.2: tokens are in increasing order, do not overlap, and stand in the text, or a line feed stands for them.
func TestPlaces(t *testing.T) {
	for _, s := range samples() {
		if l, _, e := Scan(s); e == api.OK {
			checkPlaces(t, s, l)
		}
	}
	for _, s := range programs() {
		checkPlaces(t, s, accepted(t, s))
	}
}

// sameTokens reports whether two lists have the same kinds and texts.
func sameTokens(a, b []api.Token) bool {
	return slices.EqualFunc(a, b, func(x, y api.Token) bool { return x.Kind == y.Kind && x.Text == y.Text })
}

// P2.3: the joined tokens are accepted and have the same kinds and texts.
func TestJoining(t *testing.T) {
	long := "a\n" + strings.Repeat("(", 9998) // 10000 tokens with 9999 blanks
	for _, s := range append(samples(), long, long[:9000], strings.Repeat("a+1<-b\n", 1400)) {
		l, _, e := Scan(s)
		if e != api.OK {
			continue
		}
		text := Join(l)
		if back, at, e := Scan(text); e != api.OK || at != 0 || !sameTokens(l, back) {
			t.Fatalf("%.60q: %.60q: %.60s %d %v", s, text, show(back), at, e)
		}
	}
	for _, s := range programs() {
		if back := accepted(t, Join(accepted(t, s))); !sameTokens(back, accepted(t, s)) {
			t.Errorf("%q: %s", s, show(back))
		}
	}
}

// P2.3: the text of the tokens of a text may be too long, or just short enough.
func TestJoiningAtTheLimit(t *testing.T) {
	for _, x := range []struct {
		s    string
		size int
		e    api.Errno
	}{
		{strings.Repeat("(", 10000), 19999, api.OK},
		{strings.Repeat("(", 9999) + "ab", 20000, api.OK},
		{strings.Repeat("(", 10000) + "a", 20001, api.ErrLimit},
		{strings.Repeat("(", 20000), 39999, api.ErrLimit},
	} {
		text := Join(accepted(t, x.s))
		if l, at, e := Scan(text); len(text) != x.size || e != x.e || at != 0 || e == api.OK && !sameTokens(l, accepted(t, x.s)) {
			t.Error(len(x.s), len(text), at, e)
		}
	}
}

// blanked returns s with a blank for every byte of these tokens.
func blanked(s string, l []api.Token) string {
	b := []byte(s)
	for _, x := range l {
		copy(b[x.At:], strings.Repeat(" ", len(x.Text)))
	}
	return string(b)
}

// P2.4: blanks in place of comments do not change the result of Scan, also where it is an error.
func TestBlankedComments(t *testing.T) {
	texts := append(samples(), "// #\n01 // c", "x // \xff\n"+strings.Repeat("y", 33), "a /// b\n\n// c", "// "+strings.Repeat("c", 19997), "a // b\n"+strings.Repeat(" ", 20000))
	comments := 0
	for _, s := range texts {
		c := Comments(s)
		comments += len(c)
		l, at, e := Scan(s)
		m, atBlanked, f := Scan(blanked(s, c))
		if !slices.Equal(l, m) || at != atBlanked || e != f {
			t.Fatalf("%.60q: %s %d %v, blanked %s %d %v", s, show(l), at, e, show(m), atBlanked, f)
		}
	}
	if comments < 1000 {
		t.Error(comments)
	}
}

// checkConcatenation requires P2.5 of two accepted texts.
func checkConcatenation(t *testing.T, a, b string) {
	t.Helper()
	want := slices.Clone(accepted(t, a))
	for _, x := range accepted(t, b) {
		x.At += len(a)
		want = append(want, x)
	}
	if l, at, e := Scan(a + b); e != api.OK || at != 0 || !slices.Equal(l, want) {
		t.Fatalf("%.60q and %.60q: %.60s %d %v", a, b, show(l), at, e)
	}
}

// P2.5: the tokens of a concatenation are those of its parts, if the first one ends with a line feed.
func TestConcatenation(t *testing.T) {
	var all []string
	for _, s := range append(joined(pieces, 2), programs()...) {
		if _, _, e := Scan(s); e == api.OK {
			all = append(all, s)
		}
	}
	for _, a := range all {
		for _, b := range all {
			if strings.HasSuffix(a, "\n") {
				checkConcatenation(t, a, b)
			}
			if _, _, e := Scan(a + "\n"); e == api.OK {
				checkConcatenation(t, a+"\n", b)
			}
		}
	}
}

// P2.5: parts that have 20000 bytes together.
func TestConcatenationAtTheLimit(t *testing.T) {
	for _, n := range []int{1, 2, 9999, 10000, 19998, 19999, 20000} {
		first := strings.Repeat("+", n-1) + "\n"
		checkConcatenation(t, first, strings.Repeat("-", 20000-n))
		checkConcatenation(t, "//"+strings.Repeat("x", max(n-3, 0))+"\n", strings.Repeat("\n", min(20000-n, 19997)))
		checkError(t, first+strings.Repeat("-", 20001-n), 0, api.ErrLimit)
	}
}

// P1: no call panics, whatever its argument is; errors come without tokens, and with an offset in the text.
func TestTotality(t *testing.T) {
	const frequent = "ab_019 \t\r\n/=<-&|!:;(){}[].,+*%>#"
	state := uint32(1)
	for n := range 3000 {
		b := make([]byte, n%97)
		for i := range b {
			state = state*1664525 + 1013904223
			b[i] = byte(state >> 24)
			if n%2 == 0 {
				b[i] = frequent[int(state>>24)%len(frequent)]
			}
		}
		s := string(b)
		l, at, e := Scan(s)
		if at < 0 || at > len(s) || e == api.OK && at != 0 || e != api.OK && len(l) != 0 {
			t.Fatalf("%q: %s %d %v", s, show(l), at, e)
		}
		checkSpecified(t, s)
		Keyword(s)
		Join(append(l, Comments(s)...))
	}
	for _, s := range []string{strings.Repeat("\xff", 1<<20), strings.Repeat("a\n", 1<<20)} {
		checkError(t, s, 0, api.ErrLimit)
		if Keyword(s) || len(Comments(s)) != 0 {
			t.Errorf("%.10q", s)
		}
	}
	if s := Join(make([]api.Token, 1<<16)); s != strings.Repeat(" ", 1<<16-1) {
		t.Error(len(s))
	}
}
