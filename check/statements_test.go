package check

import (
	"strings"
	"testing"

	"interleave/api"
)

// declared is what the texts of statements and expressions may use: a struct and global variables of all types, and functions.
const declared = " }; type T struct { n int; z bool; t *T; u *U; s []int; c chan int; f func(); m mutex; r rwmutex; g group; o once; a atomic }; type U struct { n int }; " +
	"var n int; var z bool; var t *T; var u *U; var s []int; var c chan int; var f func(); var m mutex; var r rwmutex; var g group; var o once; var a atomic; " +
	"func give() int { return 1 }; func take(i int) { }; func both(t *T, z bool) *T { return t }; func idle() { }; func test() bool { return z }"

// body returns the text of a file with these statements.
func body(statements string) string { return "func main() { " + statements + declared }

// checkBodies requires errors of statements.
func checkBodies(t *testing.T, l []wrong) {
	t.Helper()
	for _, x := range l {
		checkText(t, body(x.text), x.kind, x.e)
	}
}

func acceptBodies(t *testing.T, l ...string) {
	t.Helper()
	for _, s := range l {
		accepted(t, numbered(parsed(t, body(s))))
	}
}

// values are expressions of each value type, that is, the variables of these types, and nil.
var values = map[string][]string{
	"int": {"n", "t.n", "1"}, "bool": {"z", "t.z", "true"}, "*T": {"t", "t.t"}, "*U": {"u", "t.u"}, "[]int": {"s", "t.s"}, "chan int": {"c", "t.c"}, "func()": {"f", "t.f", "idle"}, "": {"nil"},
}

// P6.1: a value can be stored where it is assignable, and nowhere else.
func TestAssignability(t *testing.T) {
	for to, targets := range values {
		for from, l := range values {
			for _, x := range l {
				fits := to == from || from == "" && to != "int" && to != "bool"
				if to == "" {
					continue
				}
				checkStored(t, fits, "var v "+to+" = %", x)
				checkStored(t, fits, targets[0]+" = %", x)
				checkStored(t, fits, targets[1]+" = %", x)
				checkStored(t, fits, "give(); }; func store() "+to+" { return %", x)
				checkStored(t, fits, "put(2, %, 3) }; func put(i int, v "+to+", j int) {", x)
			}
		}
	}
}

// checkStored requires that the statements with an expression at the % are accepted, or that the error is at the expression.
func checkStored(t *testing.T, fits bool, statements, x string) {
	t.Helper()
	if fits {
		acceptBodies(t, strings.Replace(statements, "%", x, 1))
		return
	}
	x, kind := pointed(x)
	checkText(t, body(strings.Replace(statements, "%", x, 1)), kind, api.ErrType)
}

// pointed returns a text of an expression with a @ where the node of the expression is, and the kind of this node.
func pointed(x string) (string, int) {
	switch {
	case strings.Contains(x, "."):
		return strings.Replace(x, ".", "@.", 1), api.NMember
	case x == "nil":
		return "@nil", api.NNil
	case x == "1":
		return "@1", api.NInt
	case x == "true":
		return "@true", api.NBool
	}
	return "@" + x, api.NName
}

// P6.1: each statement whose expression has a type that is none of those permitted has its error at the expression.
func TestOperands(t *testing.T) {
	for _, x := range []struct{ statement, permitted string }{
		{"close(%)", "chan int"},
		{"% <- 1", "chan int"},
		{"c <- %", "int"},
		{"print(%)", "int,bool"},
		{"if % { }", "bool"},
		{"if z { } else if % { }", "bool"},
		{"for % { }", "bool"},
		{"print(%[0])", "[]int"},
		{"%[0] = 1", "[]int"},
		{"s[%] = 1", "int"},
		{"print(len(%))", "[]int"},
		{"s = make([]int, %)", "int"},
		{"c = make(chan int, %)", "int"},
		{"select { case % <- 1: }", "chan int"},
		{"select { case c <- %: }", "int"},
		{"v := %", "int,bool,*T,*U,[]int,chan int,func()"},
		{"%()", "func()"},
		{"go %()", "func()"},
		{"defer %()", "func()"},
	} {
		for of, l := range values {
			for _, value := range l {
				fits := of != "" && strings.Contains(","+x.permitted+",", ","+of+",")
				checkStored(t, fits, x.statement, value)
			}
		}
	}
}

// P6.1: definitions and declarations of variables.
func TestVariables(t *testing.T) {
	checkBodies(t, []wrong{
		{"x := 1; @x := 2", api.NDefine, api.ErrDuplicate},
		{"x := 1; @x := true", api.NDefine, api.ErrDuplicate},
		{"var x int; @x := x", api.NDefine, api.ErrDuplicate},
		{"x := 1; @var x *T", api.NVar, api.ErrDuplicate},
		{"var x int; y := x; @var x int = y", api.NVar, api.ErrDuplicate},
		{"x := @nil", api.NNil, api.ErrType},
		{"x := idle@()", api.NCall, api.ErrType},
		{"x := m.Lock@()", api.NCall, api.ErrType},
		{"x := 1; x := @nil", api.NNil, api.ErrType},
		{"x := @x", api.NName, api.ErrName},
		{"x := func() { @x() }", api.NName, api.ErrName},
		{"x := func() { @y = 1 }; y := 1", api.NName, api.ErrName},
		{"var x @mutex = x", api.NType, api.ErrType},
		{"var x @atomic", api.NType, api.ErrType},
		{"var x @*X = 1 + nil", api.NPointer, api.ErrName},
		{"var x @*n", api.NPointer, api.ErrName},
		{"var x @*give", api.NPointer, api.ErrName},
		{"var x int; var x @*X", api.NPointer, api.ErrName},
		{"var x int; var x bool = @2", api.NInt, api.ErrType},
		{"var x int = idle@()", api.NCall, api.ErrType},
		{"var x int = @x", api.NName, api.ErrName},
		{"var x *T = @new(U)", api.NNew, api.ErrType},
		{"var x *U = both@(nil, true)", api.NCall, api.ErrType},
	})
	acceptBodies(t, "x := 1; y := x; y = x", "var x int; var y bool; z = y; n = x", "var x *T; var y *U = nil; x = nil; y = x.u", "T := 1; T = 2; var x *T; x = new(T)", "give := 1; n = give", "main := idle; main()",
		"x := give(); y := test(); z = y; n = x", "x := f; x()", "n := n; { n := n; n = 1 }", "var n bool = n == 1; n = true", "x := func() { }; { x := x; x() }")
}

// P6.1: what can be the target of an assignment, and in which order it is checked.
func TestTargets(t *testing.T) {
	checkBodies(t, []wrong{
		{"@1 = 1", api.NInt, api.ErrType},
		{"@nil = nil", api.NNil, api.ErrType},
		{"give@() = 1", api.NCall, api.ErrType},
		{"n @+ 1 = 1", api.NBinary, api.ErrType},
		{"@-n = 1", api.NUnary, api.ErrType},
		{"@<-c = 1", api.NReceive, api.ErrType},
		{"@len(s) = 1", api.NLen, api.ErrType},
		{"@new(T) = t", api.NNew, api.ErrType},
		{"@make([]int, 1) = s", api.NSlice, api.ErrType},
		{"@func() { } = f", api.NLiteral, api.ErrType},
		{"@idle = nil", api.NName, api.ErrType},
		{"@idle = idle", api.NName, api.ErrType},
		{"@give = 1", api.NName, api.ErrType},
		{"@m = m", api.NName, api.ErrType},
		{"t@.m = nil", api.NMember, api.ErrType},
		{"@T = nil", api.NName, api.ErrName},
		{"@x = y", api.NName, api.ErrName},
		{"@1 = x", api.NInt, api.ErrType},
		{"@idle = x", api.NName, api.ErrType},
		{"1 @+ nil = x", api.NBinary, api.ErrType},
		{"n = @x", api.NName, api.ErrName},
		{"n = @m", api.NName, api.ErrType},
		{"t.n = idle@()", api.NCall, api.ErrType},
		{"s[@z] = x", api.NName, api.ErrType},
		{"s[1] = @x", api.NName, api.ErrName},
		{"s[0] = @nil", api.NNil, api.ErrType},
	})
	acceptBodies(t, "idle := f; idle = nil; idle = f", "s[give()] = give()", "both(t, z).n = 1", "both(nil, true).t.t = new(T)", "t.s[t.n] = t.n", "make([]int, 1)[0] = 1", "new(T).u = nil", "c = make(chan int, 0)")
}

// P6.1: statements that consist of expressions, and channels.
func TestSimpleStatements(t *testing.T) {
	checkBodies(t, []wrong{
		{"<-@x", api.NName, api.ErrName},
		{"@<-n", api.NReceive, api.ErrType},
		{"go @x()", api.NName, api.ErrName},
		{"defer take(@z)", api.NName, api.ErrType},
		{"go take@()", api.NCall, api.ErrType},
		{"defer m@.RLock()", api.NMember, api.ErrName},
		{"@x <- y", api.NName, api.ErrName},
		{"c <- @x", api.NName, api.ErrName},
		{"@n <- x", api.NName, api.ErrType},
		{"close(@x)", api.NName, api.ErrName},
		{"close(@m)", api.NName, api.ErrType},
		{"print(@x)", api.NName, api.ErrName},
		{"print(idle@())", api.NCall, api.ErrType},
		{"print(@give)", api.NName, api.ErrType},
		{"print(@idle)", api.NName, api.ErrType},
	})
	acceptBodies(t, "<-c", "<-t.c", "go give()", "defer give()", "go idle(); defer idle()", "go func() { }(); defer func() { <-c }()", "defer m.Unlock(); go a.Load()", "give(); both(nil, z); test()",
		"c <- <-c", "t.c <- give()", "close(make(chan int, 3))", "print(<-c); print(t.z); print(!z)", "go t.f()", "defer t.m.Lock()")
}

// P6.1: conditions, blocks and the order in which they are checked.
func TestBranches(t *testing.T) {
	checkBodies(t, []wrong{
		{"if @x { y = 1 } else { y = 2 }", api.NName, api.ErrName},
		{"if z { @x = 1 } else { y = 1 }", api.NName, api.ErrName},
		{"if z { } else { @y = 1 }", api.NName, api.ErrName},
		{"if z { } else if @y { x = 1 } else { w = 1 }", api.NName, api.ErrName},
		{"if z { } else if z { @x = 1 } else { w = 1 }", api.NName, api.ErrName},
		{"if z { } else if z { } else { @w = 1 }", api.NName, api.ErrName},
		{"if idle@() { }", api.NCall, api.ErrType},
		{"for @x { y = 1 }", api.NName, api.ErrName},
		{"for z { @y = 1 }", api.NName, api.ErrName},
		{"for { @y = 1 }; x = 1", api.NName, api.ErrName},
		{"{ @y = 1 }; x = 1", api.NName, api.ErrName},
		{"if n @+ 1 { x = 1 }", api.NBinary, api.ErrType},
		{"if z { x := 1 } else { @x = 1 }", api.NName, api.ErrName},
		{"if z { x := 1 }; @x = 1", api.NName, api.ErrName},
		{"for z { x := 1 }; @x = 1", api.NName, api.ErrName},
		{"for { x := 1; { y := x; y = 2 }; @y = 1 }", api.NName, api.ErrName},
		{"{ { x := 1 }; @x = 1 }", api.NName, api.ErrName},
		{"{ x := 1 }; { @x = 1 }", api.NName, api.ErrName},
	})
	acceptBodies(t, "x := 1; if z { x := 2; x = 1 } else if z { x := true; x = z } else { x = 1; x := t; x = nil }", "x := 1; { x := true; { x := x; x = z }; x = z }; x = n", "for { n := z; n = true }; n = 1", "for test() { }", "if n == 1 && (z || !z) { }")
}

// P6.1: what a function returns. Function literals have no result.
func TestReturns(t *testing.T) {
	checkBodies(t, []wrong{
		{"@return 1", api.NReturn, api.ErrType},
		{"@return x", api.NReturn, api.ErrType},
		{"@return idle()", api.NReturn, api.ErrType},
		{"}; func h() int { @return", api.NReturn, api.ErrType},
		{"}; func h() int { return @true", api.NBool, api.ErrType},
		{"}; func h() int { return @x", api.NName, api.ErrName},
		{"}; func h() *T { return @u", api.NName, api.ErrType},
		{"}; func h() func() { return @give", api.NName, api.ErrType},
		{"}; func h() int { func() { @return 1 }(); return 1", api.NReturn, api.ErrType},
		{"}; func h() int { func() { return }(); @return", api.NReturn, api.ErrType},
		{"}; func h() int { func() { func() { }(); @return 1 }(); return 1", api.NReturn, api.ErrType},
		{"}; func h() int { for { if z { { @return } } }", api.NReturn, api.ErrType},
		{"}; func h() int { return 1 }; func i() { @return 1", api.NReturn, api.ErrType},
		{"}; func h() int { return 1 }; func i() bool { return @1", api.NInt, api.ErrType},
	})
	acceptBodies(t, "return", "return; n = 1", "{ return }", "}; func h() *T { return nil", "}; func h() func() { return func() { return }", "}; func h() func() { return idle", "}; func h(x int) int { func() { if z { return } }(); return x",
		"}; func h() bool { for { if z { return z } else { return 1 == 2 } }")
}

// P6.1: the cases of select statements.
func TestSelects(t *testing.T) {
	checkBodies(t, []wrong{
		{"select { default: @default: }", api.NCase, api.ErrDuplicate},
		{"select { default: case <-c: case c <- 1: @default: x = 1 }", api.NCase, api.ErrDuplicate},
		{"select { default: @x = 1; default: }", api.NName, api.ErrName},
		{"select { default: case <-@x: default: }", api.NName, api.ErrName},
		{"select { case @<-n: }", api.NReceive, api.ErrType},
		{"select { case x := @<-n: }", api.NReceive, api.ErrType},
		{"select { case @x = <-c: }", api.NName, api.ErrName},
		{"select { case z = @<-c: }", api.NReceive, api.ErrType},
		{"select { case @idle = <-c: }", api.NName, api.ErrType},
		{"select { case n = <-@m: }", api.NName, api.ErrType},
		{"select { case c <- 1: @x = 1; case c <- y: }", api.NName, api.ErrName},
		{"select { case c <- @x: y = 1 }", api.NName, api.ErrName},
		{"select { case x := <-c: @x := 2 }", api.NDefine, api.ErrDuplicate},
		{"select { case x := <-c: @var x bool }", api.NVar, api.ErrDuplicate},
		{"select { case x := <-c: case n = <-c: n = @x }", api.NName, api.ErrName},
		{"select { case x := <-c: }; n = @x", api.NName, api.ErrName},
		{"select { case x := <-@x: }", api.NName, api.ErrName},
		{"select { case <-c: x := 1; default: n = @x }", api.NName, api.ErrName},
		{"select { case x := <-c: z = @x }", api.NName, api.ErrType},
		{"select { case x := <-c: { z = @x } }", api.NName, api.ErrType},
	})
	acceptBodies(t, "select { }", "select { default: }", "select { default: case <-c: }", "select { case <-c: default: case x := <-c: n = x }",
		"select { case x := <-c: { x := z; x = z }; x = 1 }", "x := c; select { case x := <-x: x = 1 }; x = nil", "select { case s[0] = <-c: case t.n = <-t.c: case n = <-c: n = 1; case t.c <- n: }",
		"select { default: select { default: }; case <-c: select { default: } }", "select { case x := <-c: n = x; case x := <-c: n = x; default: x := 1; n = x }")
}
