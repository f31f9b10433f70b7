package compile

import (
	"strconv"
	"strings"
	"testing"

	"interleave/api"
	"interleave/code"
)

// list returns a text for each number below n, in which it replaces each #.
func list(n int, text string) string {
	var b strings.Builder
	for i := range n {
		b.WriteString(strings.ReplaceAll(text, "#", strconv.Itoa(i)))
	}
	return b.String()
}

// in returns a text with a list in place of the @.
func in(text string, n int, element string) string {
	return strings.Replace(text, "@", list(n, element), 1)
}

// checkLimit requires that a text with a list of most elements has a program, and a text with one more has none.
func checkLimit(t *testing.T, text, element string, most int) {
	t.Helper()
	p, at, e := Source(in(text, most, element))
	if e != api.OK || at != 0 || !code.Valid(p) {
		t.Errorf("%s with %d %s: %d %v", text, most, element, at, e)
	}
	for _, n := range []int{most + 1, most + 2, 2*most + 3} {
		if p, at, e := Source(in(text, n, element)); e != api.ErrLimit || at != 0 || !code.Equal(p, api.Program{}) {
			t.Errorf("%s with %d %s: %d %v", text, n, element, at, e)
		}
	}
}

// P11.1: functions, with inner functions and wrappers.
func TestLimitOfFunctions(t *testing.T) {
	checkLimit(t, "@func main() { }", "func f#() { }\n", 63)
	checkLimit(t, "func f() { func() { }() }; func main() { @}", "func() { }(); ", 61)
	checkLimit(t, "func main() { f := func() { @}; f() }", "func() { }(); ", 62)
	checkLimit(t, "var m mutex; func main() { @}", "go m.Lock(); ", 63)
	checkLimit(t, "var m mutex; func main() { @}", "defer m.Lock(); ", 63)
	checkLimit(t, "func k(f func()) { }; @func main() { x := main; x() }", "func f#() { k(f#) }\n", 30)
	checkLimit(t, "func f() { }; func main() { x := f; x() }; @", "func g#() { }\n", 61)
	checkLimit(t, "func main() { x := main; @x() }", "func() { }(); ", 62)
}

// P11.1: globals, structs, fields and cases.
func TestLimitsOfTables(t *testing.T) {
	checkLimit(t, "@func main() { }", "var x# int\n", 64)
	checkLimit(t, "@func main() { }", "type T# struct { }\n", 30)
	checkLimit(t, "func main() { }; type T struct { @}", "f# int; ", 64)
	checkLimit(t, "type S struct { }; type T struct { @}; func main() { x := new(T); x.f63.f0 = x }", "f# *T; ", 64)
	checkLimit(t, "func main() { c := make(chan int, 1); select { @} }", "case <-c: print(#)\n", 8)
	checkLimit(t, "func main() { c := make(chan int, 1); select { @default: print(9) } }", "case c <- #: print(#)\n", 8)
	checkLimit(t, "func main() { c := make(chan int, 1); select { default: print(9); @} }", "case x := <-c: print(x)\n", 8)
	checkLimit(t, "func main() { c := make(chan int, 1); func() { if true { for { select { case c <- 1: @ } } } }() }", "case x := <-c: print(x)\n", 7)
	checkLimit(t, "func main() { c := make(chan int, 1); select { case <-c: select { @} } }", "case <-c:\n", 8)
}

// P11.1: instructions, and registers of parameters. The last file of each row that is accepted has as many as a function can have.
func TestLimitsOfFunctions(t *testing.T) {
	checkLimit(t, "func f(@z int) { }; func main() { }", "a# int, ", 63)
	checkLimit(t, "func f(@z int) { print(1) }; func main() { }", "a# int, ", 63)
	checkLimit(t, "func f(g func(), h func(), @z int) { g = func() { h() } }; func main() { }", "a# int, ", 61)
	checkLimit(t, "func main() { @}", "print(#); ", 499)
	checkLimit(t, "func main() { @return; }", "print(#); ", 499)
	checkLimit(t, "func main() { @x := 1 }", "print(#); ", 499)
	source(t, in("func f(@z int) { }; func main() { f("+list(63, "#, ")+" 1) }", 63, "a# int, "))
	source(t, in("func f(@z int) { }; func main() { go f("+list(63, "#, ")+" 1); defer f("+list(63, "#, ")+" 1) }", 63, "a# int, "))
}

// P11.1: variables whose values are needed behind a statement. The last file that is accepted needs all registers.
func TestLimitsOfVariables(t *testing.T) {
	for _, x := range []struct {
		statement string
		most      int
	}{
		{"", 63},
		{"print(1)", 63},
		{"x = x", 62},
		{"print(x + x)", 62},
		{"print(x + (x + x))", 61},
		{"print(1 + (x + 2))", 62},
		{"k(a0, 1)", 63},
		{"x = k(a0, 1)", 62},
		{"x = k(x, k(x, k(x, 1)))", 60},
		{"func() { x = 1 }()", 63},
		{"select { case <-c: x = 1; case c <- x: default: }", 61},
		{"select { case z := <-c: x = z; case <-c: }", 61},
		{"at.CompareAndSwap(1, 2)", 61},
		{"go at.CompareAndSwap(1, 2)", 60},
		{"if a0 < 1 { x = 1 } else { a0 = 2 }", 62},
		{"for a0 < 1 { a0 = a0 + 1 }", 63},
	} {
		text := func(n int) string {
			return "var x int; var c chan int; var at atomic; func k(i int, j int) int { return i }; func main() {\n" +
				list(n, "a# := x\n") + x.statement + "\n" + list(n, "x = a#\n") + "}"
		}
		if p, at, e := Source(text(x.most)); e != api.OK || !code.Valid(p) {
			t.Errorf("%s with %d variables: %d %v", x.statement, x.most, at, e)
		}
		if p, at, e := Source(text(x.most + 1)); e != api.ErrLimit || at != 0 || !code.Equal(p, api.Program{}) {
			t.Errorf("%s with %d variables: %d %v", x.statement, x.most+1, at, e)
		}
	}
}
