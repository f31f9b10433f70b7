// Package lines implements layer 1: line tables. See shared/doc/01-lines.md.
package lines

import (
	"slices"

	"interleave/api"
)

// maxSize is the largest number of bytes of a valid table.
const maxSize = 1 << 40

// Of returns the line table of s.
func Of(s string) api.Lines {
	starts := []int{0}
	for i, b := range []byte(s) {
		if b == '\n' {
			starts = append(starts, i+1)
		}
	}
	return api.Lines{Starts: starts, Size: len(s)}
}

// Valid reports whether l is valid.
func Valid(l api.Lines) bool {
	n := len(l.Starts)
	if n == 0 || l.Starts[0] != 0 {
		return false
	}
	for i := 1; i < n; i++ {
		if l.Starts[i-1] >= l.Starts[i] {
			return false
		}
	}
	return l.Starts[n-1] <= l.Size && l.Size <= maxSize
}

// Count returns the number of lines, or 0 if l is not valid.
func Count(l api.Lines) int {
	if !Valid(l) {
		return 0
	}
	return len(l.Starts)
}

// Position returns the line and the column of an offset.
func Position(l api.Lines, at int) (int, int, api.Errno) {
	if !Valid(l) {
		return 0, 0, api.ErrArg
	}
	if at < 0 || at > l.Size {
		return 0, 0, api.ErrRange
	}
	line, found := slices.BinarySearch(l.Starts, at)
	if found {
		// The search returns the index of the line that starts here, and otherwise that of the line behind.
		line++
	}
	return line, at - l.Starts[line-1] + 1, api.OK
}

// Offset returns the offset of a line and a column.
func Offset(l api.Lines, line, col int) (int, api.Errno) {
	from, to, e := Span(l, line)
	if e != api.OK {
		return 0, e
	}
	columns := to - from
	if line == len(l.Starts) {
		// The offset behind the last byte belongs to the last line.
		columns++
	}
	// The column is checked before it is added, because the sum could wrap around.
	if col < 1 || col > columns {
		return 0, api.ErrRange
	}
	return from + col - 1, api.OK
}

// Span returns the offsets at which a line starts and ends.
func Span(l api.Lines, line int) (int, int, api.Errno) {
	if !Valid(l) {
		return 0, 0, api.ErrArg
	}
	n := len(l.Starts)
	if line < 1 || line > n {
		return 0, 0, api.ErrRange
	}
	from := l.Starts[line-1]
	if line == n {
		return from, l.Size, api.OK
	}
	return from, l.Starts[line], api.OK
}
