package lines

import (
	"math"
	"slices"
	"strconv"
	"strings"
	"testing"

	"interleave/api"
)

// extremes are numbers that no table of these tests has as an offset, a line or a column, except for 0.
var extremes = []int{math.MinInt, math.MinInt + 1, math.MinInt + 2, -1 << 62, -1 << 40, -1 << 31, -2, -1, 0, 1<<40 + 2, 1 << 62, math.MaxInt - 1, math.MaxInt}

// texts returns all texts of at most most bytes over a small alphabet.
func texts(most int) []string {
	all := []string{""}
	for from := 0; most > 0; most-- {
		to := len(all)
		for _, s := range all[from:to] {
			for _, c := range []string{"\n", "a", "\r", "\xff"} {
				all = append(all, s+c)
			}
		}
		from = to
	}
	return all
}

// samples returns texts with ordinary lines and with the edge cases of the chapter.
func samples() []string {
	return append(texts(5),
		"package main\n\nfunc main() {\n\tprint(1)\n}\n",
		"var x int\nfunc main() {\ngo func() { x = 1 }()\nx = 2\n}",
		"ä\n\u2028\u0085\v\f\x00\n\r\n",
		strings.Repeat("\n", 300),
		strings.Repeat("0123456789\n", 200)+"end",
	)
}

// tables returns all tables with at most four starts and with numbers from -1 to 4.
func tables() []api.Lines {
	lists := [][]int{nil}
	for from, n := 0, 0; n < 4; n++ {
		to := len(lists)
		for _, l := range lists[from:to] {
			for x := -1; x <= 4; x++ {
				lists = append(lists, append(slices.Clone(l), x))
			}
		}
		from = to
	}
	var all []api.Lines
	for _, l := range lists {
		for size := -1; size <= 5; size++ {
			all = append(all, api.Lines{Starts: l, Size: size})
		}
	}
	return all
}

// wellFormed states the definition of a valid table, condition by condition.
func wellFormed(l api.Lines) bool {
	if len(l.Starts) == 0 {
		return false
	}
	increasing := true
	for i := range l.Starts {
		for j := range i {
			increasing = increasing && l.Starts[j] < l.Starts[i]
		}
	}
	return l.Starts[0] == 0 && increasing && slices.Max(l.Starts) <= l.Size && l.Size <= 1<<40
}

// large returns valid tables that belong to no text of a test.
func large() []api.Lines {
	return []api.Lines{
		{Starts: []int{0}, Size: 1 << 40},
		{Starts: []int{0, 1 << 40}, Size: 1 << 40},
		{Starts: []int{0, 1, 1 << 39, 1<<40 - 1}, Size: 1 << 40},
		{Starts: []int{0, 1 << 31, 1 << 32}, Size: 1<<40 - 1},
	}
}

// invalid returns tables that each violate one condition, and tables with extreme numbers.
func invalid() []api.Lines {
	return []api.Lines{
		{},
		{Size: 4},
		{Starts: []int{}, Size: 4},
		{Starts: []int{1}, Size: 4},
		{Starts: []int{-1, 0}, Size: 4},
		{Starts: []int{-1}, Size: 4},
		{Starts: []int{0, 0}, Size: 4},
		{Starts: []int{0, 3, 3}, Size: 4},
		{Starts: []int{0, 3, 2}, Size: 4},
		{Starts: []int{0, 2, 1, 3}, Size: 4},
		{Starts: []int{0, 5}, Size: 4},
		{Starts: []int{0, 9, 4}, Size: 4},
		{Starts: []int{0}, Size: -1},
		{Starts: []int{0}, Size: math.MinInt},
		{Starts: []int{0}, Size: 1<<40 + 1},
		{Starts: []int{0, 2}, Size: math.MaxInt},
		{Starts: []int{0, math.MaxInt}, Size: math.MaxInt},
		{Starts: []int{0, math.MaxInt}, Size: 4},
		{Starts: []int{math.MinInt, 0}, Size: 4},
		{Starts: []int{0, math.MinInt}, Size: 4},
	}
}

func name(l api.Lines) string {
	s := "starts"
	for _, at := range l.Starts {
		s += " " + strconv.Itoa(at)
	}
	return s + " size " + strconv.Itoa(l.Size)
}

// P1.1: the table of a text.
func TestOfIsTheTableOfTheText(t *testing.T) {
	for _, x := range []struct {
		text   string
		starts []int
	}{
		{"", []int{0}},
		{"a", []int{0}},
		{"\n", []int{0, 1}},
		{"a\n", []int{0, 2}},
		{"\na", []int{0, 1}},
		{"\n\n", []int{0, 1, 2}},
		{"ab\n\nc", []int{0, 3, 4}},
		{"a\rb\r\nc", []int{0, 5}},
		{"\u00e4\n\u4e16\n", []int{0, 3, 7}},
		{"\xff\n\xfe", []int{0, 2}},
		{"\u2028\u0085\n", []int{0, 6}},
	} {
		l := Of(x.text)
		if !slices.Equal(l.Starts, x.starts) || l.Size != len(x.text) {
			t.Errorf("%q: %s", x.text, name(l))
		}
	}
}

// P1.1: the table of every text is valid, and a line starts exactly at 0 and behind every line feed.
func TestOfIsValid(t *testing.T) {
	for _, s := range samples() {
		l := Of(s)
		if !Valid(l) || l.Size != len(s) || Count(l) != strings.Count(s, "\n")+1 {
			t.Fatalf("%q: %s", s, name(l))
		}
		for at := 0; at <= len(s); at++ {
			if slices.Contains(l.Starts, at) != (at == 0 || s[at-1] == '\n') {
				t.Fatalf("%q: %s", s, name(l))
			}
		}
	}
}

// P1.1: a table is valid exactly under the conditions of the definition; it has as many lines as starts.
func TestValidAndCount(t *testing.T) {
	for _, l := range append(tables(), append(large(), invalid()...)...) {
		count := 0
		if wellFormed(l) {
			count = len(l.Starts)
		}
		if Valid(l) != wellFormed(l) || Count(l) != count {
			t.Errorf("%s: %v %d", name(l), Valid(l), Count(l))
		}
	}
	for _, l := range invalid() {
		if Valid(l) {
			t.Errorf("%s is valid", name(l))
		}
	}
	for _, l := range large() {
		if !Valid(l) {
			t.Errorf("%s is not valid", name(l))
		}
	}
}

// P1.1: the example of the chapter.
func TestExample(t *testing.T) {
	l := Of("ab\n\nc")
	for at, w := range [][2]int{{1, 1}, {1, 2}, {1, 3}, {2, 1}, {3, 1}, {3, 2}} {
		if line, col, e := Position(l, at); line != w[0] || col != w[1] || e != api.OK {
			t.Error(at, line, col, e)
		}
		if back, e := Offset(l, w[0], w[1]); back != at || e != api.OK {
			t.Error(w, back, e)
		}
	}
	for i, w := range [][2]int{{0, 3}, {3, 4}, {4, 5}} {
		if from, to, e := Span(l, i+1); from != w[0] || to != w[1] || e != api.OK {
			t.Error(i+1, from, to, e)
		}
	}
	for _, p := range [][2]int{{1, 4}, {4, 1}, {2, 2}, {3, 3}} {
		if at, e := Offset(l, p[0], p[1]); at != 0 || e != api.ErrRange {
			t.Error(p, at, e)
		}
	}
}

// P1.1: positions and spans follow the bytes of the text, one by one.
func TestPositionsFollowTheText(t *testing.T) {
	for _, s := range samples() {
		l := Of(s)
		line, start := 1, 0
		for at := 0; at <= len(s); at++ {
			gotLine, gotCol, e := Position(l, at)
			if gotLine != line || gotCol != at-start+1 || e != api.OK {
				t.Fatalf("%q, offset %d: %d %d %v", s, at, gotLine, gotCol, e)
			}
			if at < len(s) && s[at] == '\n' {
				checkSpan(t, l, line, start, at+1)
				line, start = line+1, at+1
			}
		}
		checkSpan(t, l, line, start, len(s))
	}
}

func checkSpan(t *testing.T, l api.Lines, line, from, to int) {
	t.Helper()
	gotFrom, gotTo, e := Span(l, line)
	if gotFrom != from || gotTo != to || e != api.OK {
		t.Fatalf("%s, line %d: %d %d %v", name(l), line, gotFrom, gotTo, e)
	}
}

// P1.1: the edge cases of the last line, and tables of the largest size.
func TestLastLine(t *testing.T) {
	for _, x := range []struct {
		l         api.Lines
		line, col int
		from      int
	}{
		{Of(""), 1, 1, 0},
		{Of("a"), 1, 2, 0},
		{Of("\n"), 2, 1, 1},
		{Of("a\n"), 2, 1, 2},
		{Of("a\nbc"), 2, 3, 2},
		{api.Lines{Starts: []int{0}, Size: 1 << 40}, 1, 1<<40 + 1, 0},
		{api.Lines{Starts: []int{0, 1 << 40}, Size: 1 << 40}, 2, 1, 1 << 40},
		{api.Lines{Starts: []int{0, 5, 1<<40 - 1}, Size: 1 << 40}, 3, 2, 1<<40 - 1},
	} {
		line, col, e := Position(x.l, x.l.Size)
		if line != x.line || col != x.col || e != api.OK {
			t.Error(name(x.l), line, col, e)
		}
		if at, e := Offset(x.l, x.line, x.col); at != x.l.Size || e != api.OK {
			t.Error(name(x.l), at, e)
		}
		if at, e := Offset(x.l, x.line, x.col+1); at != 0 || e != api.ErrRange {
			t.Error(name(x.l), at, e)
		}
		checkSpan(t, x.l, x.line, x.from, x.l.Size)
	}
}

// P1.1: a column behind a line's line feed is not a column of that line.
func TestColumnsOfInnerLines(t *testing.T) {
	l := api.Lines{Starts: []int{0, 1, 1 << 39, 1 << 40}, Size: 1 << 40}
	for i, columns := range []int{1, 1<<39 - 1, 1 << 39} {
		line := i + 1
		if at, e := Offset(l, line, columns); at != l.Starts[line]-1 || e != api.OK {
			t.Error(line, at, e)
		}
		if at, e := Offset(l, line, columns+1); at != 0 || e != api.ErrRange {
			t.Error(line, at, e)
		}
		if at, e := Offset(l, line, 1); at != l.Starts[line-1] || e != api.OK {
			t.Error(line, at, e)
		}
	}
}

// checkErrors requires that each call returns the error and zero values.
func checkErrors(t *testing.T, l api.Lines, at, line, col int, want api.Errno) {
	t.Helper()
	if x, y, e := Position(l, at); x != 0 || y != 0 || e != want {
		t.Errorf("%s: Position(%d): %d %d %v", name(l), at, x, y, e)
	}
	if x, e := Offset(l, line, col); x != 0 || e != want {
		t.Errorf("%s: Offset(%d, %d): %d %v", name(l), line, col, x, e)
	}
	if x, y, e := Span(l, line); x != 0 || y != 0 || e != want {
		t.Errorf("%s: Span(%d): %d %d %v", name(l), line, x, y, e)
	}
}

// P1.1: ErrRange for offsets, lines and columns out of range.
func TestRange(t *testing.T) {
	l := append(large(), Of(""), Of("a"), Of("\n"), Of("ab\n\nc"), Of("ab\n"))
	for _, l := range l {
		for _, x := range append(slices.Clone(extremes), l.Size+1) {
			if x != 0 {
				checkErrors(t, l, x, min(x, 0), 1, api.ErrRange)
			}
			for line := 1; line <= Count(l); line++ {
				if x == l.Size+1 && line == 1 && Count(l) == 1 {
					continue // the column behind the last byte
				}
				if at, e := Offset(l, line, x); at != 0 || e != api.ErrRange {
					t.Errorf("%s: Offset(%d, %d): %d %v", name(l), line, x, at, e)
				}
			}
		}
		for _, x := range append(slices.Clone(extremes), Count(l)+1, Count(l)+2) {
			for _, col := range append(slices.Clone(extremes), 1) {
				checkErrors(t, l, l.Size+1, x, col, api.ErrRange)
			}
		}
	}
}

// P1.1: ErrArg for a table that is not valid, also where the offset, the line or the column is out of range.
func TestInvalidTables(t *testing.T) {
	for _, l := range invalid() {
		for _, x := range append(slices.Clone(extremes), 1, 2, 3, 5) {
			checkErrors(t, l, x, x, 1, api.ErrArg)
			checkErrors(t, l, 0, 1, x, api.ErrArg)
			checkErrors(t, l, x, x, x, api.ErrArg)
		}
	}
	for _, l := range tables() {
		if !wellFormed(l) {
			checkErrors(t, l, 0, 1, 1, api.ErrArg)
			checkErrors(t, l, 9, 9, 9, api.ErrArg)
		}
	}
}

// checkInverse visits all offsets of l, and all lines and columns up to one beyond the largest.
func checkInverse(t *testing.T, l api.Lines) {
	t.Helper()
	for at := 0; at <= l.Size; at++ {
		line, col, e := Position(l, at)
		if e != api.OK || line < 1 || line > len(l.Starts) || col < 1 {
			t.Fatalf("%s, offset %d: %d %d %v", name(l), at, line, col, e)
		}
		if back, e := Offset(l, line, col); back != at || e != api.OK {
			t.Fatalf("%s, offset %d: %d %v", name(l), at, back, e)
		}
	}
	accepted := 0
	for line := -1; line <= len(l.Starts)+1; line++ {
		for col := -1; col <= l.Size+2; col++ {
			at, e := Offset(l, line, col)
			if e != api.OK {
				continue
			}
			accepted++
			if x, y, e := Position(l, at); x != line || y != col || e != api.OK {
				t.Fatalf("%s, line %d, column %d: %d %d %v", name(l), line, col, x, y, e)
			}
		}
	}
	if accepted != l.Size+1 {
		t.Fatalf("%s: %d positions", name(l), accepted)
	}
}

// P1.2: Position and Offset are inverse to each other.
func TestInverse(t *testing.T) {
	for _, s := range texts(5) {
		checkInverse(t, Of(s))
	}
	for _, l := range tables() {
		if wellFormed(l) {
			checkInverse(t, l)
		}
	}
	checkInverse(t, Of("package main\n\nfunc main() {\n\tprint(1)\n}\n"))
	checkInverse(t, api.Lines{Starts: []int{0, 7, 8, 30, 31, 32, 64}, Size: 100})
}

// P1.2: the same at the borders of large tables.
func TestInverseOfLargeTables(t *testing.T) {
	for _, l := range large() {
		for _, near := range append(slices.Clone(l.Starts), l.Size) {
			for at := max(near-2, 0); at <= min(near+2, l.Size); at++ {
				line, col, e := Position(l, at)
				back, f := Offset(l, line, col)
				if e != api.OK || f != api.OK || back != at {
					t.Error(name(l), at, line, col, e, back, f)
				}
			}
		}
	}
}

// P1.3: the lines of a text, one after the other, are the text, and only their last bytes are line feeds.
func TestLinesAreTheText(t *testing.T) {
	for _, s := range samples() {
		l := Of(s)
		joined, n := "", Count(l)
		for k := 1; k <= n; k++ {
			from, to, e := Span(l, k)
			if e != api.OK || from < 0 || from > to || to > len(s) {
				t.Fatalf("%q, line %d: %d %d %v", s, k, from, to, e)
			}
			line := s[from:to]
			joined += line
			if k < n && strings.IndexByte(line, '\n') != len(line)-1 || k == n && strings.Contains(line, "\n") || k < n && line == "" {
				t.Fatalf("%q, line %d: %q", s, k, line)
			}
		}
		if joined != s {
			t.Fatalf("%q: %q", s, joined)
		}
	}
}

// P1: no call panics, whatever its arguments are; none of them modifies a table, nor its spare capacity.
func TestTotality(t *testing.T) {
	l := append(tables(), append(large(), invalid()...)...)
	for _, l := range l {
		for _, x := range append(slices.Clone(extremes), 1, 2, 3, 4, 5, 6, 1<<40) {
			starts := append(slices.Clone(l.Starts), x, x)
			given := api.Lines{Starts: starts[:len(l.Starts)], Size: l.Size}
			Valid(given)
			Count(given)
			Position(given, x)
			Span(given, x)
			for _, y := range []int{x, 0, 1, math.MaxInt, math.MinInt} {
				Offset(given, x, y)
				Offset(given, y, x)
			}
			if !slices.Equal(starts, append(slices.Clone(l.Starts), x, x)) {
				t.Fatalf("%s was modified", name(l))
			}
		}
	}
}

// P1.1: the results of two calls share no memory (rule 5).
func TestOfIsNewMemory(t *testing.T) {
	const s = "a\nb\n"
	changed := Of(s)
	for i := range changed.Starts {
		changed.Starts[i] = -1
	}
	if l := Of(s); !slices.Equal(l.Starts, []int{0, 2, 4}) {
		t.Error(name(l))
	}
}
