package capture

import (
	"math"
	"slices"
	"strings"
	"testing"

	"interleave/api"
	"interleave/parse"
	"interleave/syntax"
)

// checkText requires the local variables and the captured variables of the functions of a text in preorder, as "LOCALS / CAPTURES".
func checkText(t *testing.T, s string, want ...string) {
	t.Helper()
	l := functions(annotated(t, s))
	if len(l) != len(want) {
		t.Fatalf("%s: %d functions", s, len(l))
	}
	for i, fn := range l {
		got := strings.TrimSpace(showLocals(Locals(fn)) + " / " + showCaptures(Captures(fn)))
		if got != want[i] {
			t.Errorf("%s\n%d: %s, want %s", s, i, got, want[i])
		}
	}
}

// checkBody requires the same of the statements of a function main.
func checkBody(t *testing.T, s string, want ...string) {
	t.Helper()
	checkText(t, "type T struct { n int; t *T }; var g int; func k(x int) *T { return nil }; func main() { "+s+" }", append([]string{"x int param /"}, want...)...)
}

// The examples of the chapter.
func TestExamples(t *testing.T) {
	s := "func f(a int) { b := a; func() { b = 1; func() { b = a }() }() }; func main() { }"
	checkText(t, s, "a int param boxed, b int boxed /", "/ 1.1 1.0", "/ 2.1 2.0", "/")
	l := functions(annotated(t, s))
	for i, want := range []int{2, 1, 0, 0} {
		if got := len(Literals(l[i])); got != want {
			t.Error(i, got)
		}
	}
}

// P8.1: all declarations of local variables, with their types.
func TestDeclarations(t *testing.T) {
	checkText(t, "func main() { }", "/")
	checkText(t, "func f(a int, b bool, c []int, d chan int, e func(), p *T) { }; type T struct { a int }; func main() { }; func g(b *T) int { return 0 }",
		"a int param, b bool param, c []int param, d chan int param, e func() param, p *T param /", "/", "b *T param /")
	checkBody(t, "var a int; var b bool; var c []int; var d chan int; var e func(); var p *T",
		"a int, b bool, c []int, d chan int, e func(), p *T /")
	checkBody(t, "var a int = 1; var b bool = true; var c []int = nil; var d chan int = nil; var e func() = main; var p *T = k(a)",
		"a int, b bool, c []int, d chan int, e func(), p *T /")
	checkBody(t, "a := 1; b := true; c := make([]int, a); d := make(chan int, 2); e := main; p := new(T)",
		"a int, b bool, c []int, d chan int, e func(), p *T /")
	checkBody(t, "a := g + 1; b := a < 2; c := -a; d := !b; e := k(3); f := e.n; h := e.t; i := make([]int, 4)[5]; j := <-make(chan int, 6); l := len(make([]int, 7)); m := l; n := e",
		"a int, b bool, c int, d bool, e *T, f int, h *T, i int, j int, l int, m int, n *T /")
	checkText(t, "func f(a int, b int) int { var c int; d := 0; return d }; func main() { }", "a int param, b int param, c int, d int /", "/")
}

// P8.1: declarations in all places, in the order of the text.
func TestPlacesOfDeclarations(t *testing.T) {
	checkBody(t, "{ a := 1; { b := 2; print(a + b) } }; c := 3; print(c)", "a int, b int, c int /")
	checkBody(t, "if true { a := 1; print(a) } else if false { b := 2; print(b) } else { c := 3; print(c) }; d := 4; print(d)", "a int, b int, c int, d int /")
	checkBody(t, "for { a := 1; for a == 1 { b := true; print(b) }; c := 2; print(c) }", "a int, b bool, c int /")
	checkBody(t, "c := make(chan int, 0); select { case a := <-c: b := true; print(b); case c <- 1: var d *T; d = nil; case <-c: case e := <-c: default: f := main; f() }; h := 0; print(h)",
		"c chan int, a int, b bool, d *T, e int, f func(), h int /")
	checkBody(t, "a := 1; { a := true; print(a) }; { a := a; print(a) }; if a == 1 { a := main; a() }; for { a := new(T); print(a.n) }",
		"a int, a bool, a int, a func(), a *T /")
}

// P8.1: the declarations within a function literal are those of the literal.
func TestDeclarationsOfLiterals(t *testing.T) {
	checkBody(t, "a := 1; func() { b := true; print(b) }(); c := 2; print(a + c)", "a int, c int /", "b bool /")
	checkBody(t, "a := func() { b := func() { c := true; print(c) }; d := 1; b(); print(d) }; e := 2; a(); print(e)", "a func(), e int /", "b func(), d int /", "c bool /")
	checkBody(t, "func() { a := 1; print(a) }(); func() { a := true; print(a) }(); go func() { var a *T }(); defer func() { { var a []int } }()",
		"/", "a int /", "a bool /", "a *T /", "a []int /")
	checkBody(t, "c := make(chan int, 0); select { case a := <-c: func() { b := 1; print(b) }(); default: func() { }() }; d := 0; print(d)", "c chan int, a int, d int /", "b int /", "/")
	checkText(t, "func f(a func()) int { return 1 }; func main() { a := f(func() { b := true; print(b) }) + f(func() { }); print(a) }", "a func() param /", "a int /", "b bool /", "/")
	checkText(t, "func f(a int) int { b := func() { c := 1; print(c) }; b(); d := true; print(d); return 0 }; func main() { }", "a int param, b func(), d bool /", "c int /", "/")
}

// P8.1: variables are captured and boxed, or not.
func TestCaptures(t *testing.T) {
	for _, x := range []struct{ s, want string }{
		{"a := 1; print(a)", "a int /"},
		{"a := 1; func() { print(a) }()", "a int boxed /; / 1.0"},
		{"a := 1; func() { a = 2 }()", "a int boxed /; / 1.0"},
		{"a := 1; func() { a = a; a = a + a }(); a = 3", "a int boxed /; / 1.0"},
		{"a := 1; b := 2; c := 3; func() { print(b) }(); print(a + c)", "a int, b int boxed, c int /; / 1.1"},
		{"a := 1; b := 2; c := 3; func() { c = a; b = c }()", "a int boxed, b int boxed, c int boxed /; / 1.2 1.0 1.1"},
		{"a := 1; b := 2; func() { print(b) }(); func() { print(a) }(); func() { print(a + b) }()", "a int boxed, b int boxed /; / 1.1; / 1.0; / 1.0 1.1"},
		{"var a func(); a = func() { a() }", "a func() boxed /; / 1.0"},
		{"a := 1; a = 2; { b := a; func() { print(b) }() }", "a int, b int boxed /; / 1.1"},
		{"a := 1; func() { a := 2; print(a) }()", "a int /; a int /"},
		{"a := 1; func() { a := a; a = 2 }()", "a int boxed /; a int / 1.0"},
		{"a := 1; func() { a = 2; a := 3; a = 4 }()", "a int boxed /; a int / 1.0"},
		{"a := 1; func() { { a := 3; a = 4 }; a = 2 }()", "a int boxed /; a int / 1.0"},
		{"a := 1; { a := true; func() { print(a) }() }; print(a)", "a int, a bool boxed /; / 1.1"},
		{"a := 1; { a := true; print(a) }; func() { print(a) }()", "a int boxed, a bool /; / 1.0"},
		{"g = 1; func() { g = 2 }(); g := 3; func() { g = 4 }()", "g int boxed /; /; / 1.0"},
		{"func() { g = k(1).n; main() }(); main := 1; k := true; func() { print(main) }(); print(k)", "main int boxed, k bool /; /; / 1.0"},
		{"n := new(T); t := n; T := 1; func() { n.t.n = T }(); print(t.n)", "n *T boxed, t *T, T int boxed /; / 1.0 1.2"},
		{"n := new(T); func() { n := new(T); n.n = n.t.n }()", "n *T /; n *T /"},
		{"func() { a := 1; print(a) }(); a := 2; print(a)", "a int /; a int /"},
		{"go func() { a := 1; defer func() { print(a) }() }(); a := 2; print(a)", "a int /; a int boxed /; / 1.0"},
	} {
		checkBody(t, x.s, strings.Split(x.want, "; ")...)
	}
	checkText(t, "func f(a int, b int, c bool) int { func() { print(c); b = 1 }(); return a }; func main() { }", "a int param, b int param boxed, c bool param boxed /", "/ 1.2 1.1", "/")
	checkText(t, "func f(a int) { { a := a; func() { a = 1 }() } }; func main() { }", "a int param, a int boxed /", "/ 1.1", "/")
}

// P8.1: literals also capture what the literals within them need from outside.
func TestNestedCaptures(t *testing.T) {
	for _, x := range []struct{ s, want string }{
		{"a := 1; func() { func() { print(a) }() }()", "a int boxed /; / 1.0; / 2.0"},
		{"a := 1; func() { func() { func() { func() { print(a) }() }() }() }()", "a int boxed /; / 1.0; / 2.0; / 3.0; / 4.0"},
		{"a := 1; func() { b := 2; func() { b = 3 }(); print(b) }(); print(a)", "a int /; b int boxed /; / 1.0"},
		{"a := 1; func() { b := 2; func() { a = 3 }(); print(b) }()", "a int boxed /; b int / 1.0; / 2.0"},
		{"a := 1; func() { b := 2; func() { a = b }() }()", "a int boxed /; b int boxed / 1.0; / 2.0 1.0"},
		{"a := 1; func() { b := 2; func() { c := 3; func() { c = b; b = a; a = c }() }() }()", "a int boxed /; b int boxed / 1.0; c int boxed / 1.0 2.0; / 1.0 2.0 3.0"},
		{"a := 1; b := 2; func() { func() { print(b) }(); print(a); func() { print(a + b) }() }()", "a int boxed, b int boxed /; / 1.1 1.0; / 2.1; / 2.0 2.1"},
		{"a := 1; b := 2; func() { b := 3; func() { a = b }(); func() { func() { print(b) }() }() }(); print(b)", "a int boxed, b int /; b int boxed / 1.0; / 2.0 1.0; / 1.0; / 2.0"},
		{"a := 1; b := 2; func() { c := 3; d := 4; func() { print(b); print(d) }(); print(c) }(); print(a)", "a int, b int boxed /; c int, d int boxed / 1.1; / 2.1 1.1"},
		{"a := 1; func() { a := a; func() { a := a; func() { a = 2 }() }() }()", "a int boxed /; a int boxed / 1.0; a int boxed / 1.0; / 1.0"},
		{"a := 1; func() { func() { a := 2; print(a) }() }(); print(a)", "a int /; /; a int /"},
		{"a := 1; func() { func() { a := 2; print(a) }(); a = 3 }()", "a int boxed /; / 1.0; a int /"},
		{"a := 1; b := func() { c := func() { print(a) }; c() }; b(); c := b; func() { c() }()", "a int boxed, b func(), c func() boxed /; c func() / 1.0; / 2.0; / 1.2"},
	} {
		checkBody(t, x.s, strings.Split(x.want, "; ")...)
	}
}

// P8.1: all statements and expressions in which variables can be used. The rows are "STATEMENTS => VARIABLES" for the statements of a
// literal, and "STATEMENTS =" if it captures nothing; i is the variable number 0, and so on.
func TestUses(t *testing.T) {
	const before = "type T struct { n int; t *T; f func(); m mutex }; var g int; var a atomic; var o once; func k(x int, y bool) int { return x }\n" +
		"func main() { var i int; var b bool; var s []int; var c chan int; var f func(); var p *T\nfunc() { "
	for row := range strings.SplitSeq(strings.TrimSpace(rows), "\n") {
		s, names, _ := strings.Cut(row, " => ")
		var want []api.Capture
		for name := range strings.FieldsSeq(names) {
			want = append(want, api.Capture{Up: 1, Num: strings.Index("ibscfp", name)})
		}
		l := functions(annotated(t, before+strings.TrimSuffix(s, " =")+" }() }"))
		if got := Captures(l[2]); !slices.Equal(got, want) {
			t.Errorf("%s: %s", row, showCaptures(got))
		}
		for i, v := range Locals(l[1]) {
			if boxed := slices.Contains(want, api.Capture{Up: 1, Num: i}); v.Name != "ibscfp"[i:i+1] || v.Boxed != boxed {
				t.Errorf("%s: %v", row, v)
			}
		}
	}
}

const rows = `
i = 1 => i
b = i == 1 => b i
g = i => i
g = 1 =
i = k(1, true) => i
s[i] = len(s) => s i
s[k(i, b)] = 1 => s i b
p.n = i => p i
p.t.n = 1 => p
p.t = p => p
i = p.t.t.n => i p
p.m.Lock() => p
go p.t.m.Unlock() => p
p.f() => p
f() => f
go f() => f
defer f() => f
k(i, b) => i b
go k(k(1, b), b) => b
defer k(1, p == nil) => p
o.Do(f) => f
o.Do(func() { f() }) => f
a.Store(i) => i
defer a.Store(i) => i
b = a.CompareAndSwap(i, i + 1) => b i
c <- i => c i
make(chan int, i) <- 1 => i
close(c) => c
<-c => c
i = <-c => i c
i = <-make(chan int, s[0]) => i s
print(i) => i
print(!b) => b
print(-i) => i
print(i + s[0]) => i s
print(b && i < 1) => b i
print(f == nil) => f
i = len(s) => i s
s = make([]int, i) => s i
c = make(chan int, i) => c i
p = new(T) => p
p = nil => p
f = main => f
f = func() { i = 1 } => f i
f = func() { } => f
new(T).n = i => i
make([]int, i)[0] = 1 => i
var x int = i => i
x := i; x = 1 => i
x := 1; x = i => i
var i int = i => i
var i int; i = 1 =
var i bool = b; i = true => b
i := i; i = 2 => i
i := 1; i = 2 =
i := b; b = i => b
if b { } => b
if b { print(i) } else if p == nil { c <- 1 } else { close(c) } => b i p c
if true { } else { s = nil } => s
for b { i = 1 } => b i
for { p = nil } => p
{ i = 1 } => i
{ i := 1; i = 2 } =
{ i := 1; i = 2 }; i = 3 => i
{ { { f() } } } => f
select { case c <- i: b = true; case s[0] = <-c: f = nil; default: p = nil } => c i b s f p
select { case i = <-c: case x := <-c: s[x] = 1; case <-make(chan int, p.n): } => i c s p
select { case i := <-c: i = 1 } => c
select { case i := <-c: b = true; case c <- i: } => c b i
select { default: i = 1 } => i
select { } =
func() { func() { i = 1; b = true }() }() => i b
func() { b = true; i = 1 }(); s[i] = 0 => b i s
func() { i := 1; i = 2 }(); b = true => b
go func() { c <- 1 }() => c
defer func() { close(c) }() => c
return =
print(g) =
`

// P8.1: the literals of a function, in all places and in preorder.
func TestLiterals(t *testing.T) {
	s := "func k(a func(), b func()) int { return 0 }; var o once; func main() { a := @func() { }; var b func() = @func() { @func() { }() }; b = @func() { go @func() { defer @func() { }() }() }; " +
		"k(@func() { a() }, @func() { o.Do(@func() { }) }); @func() { }(); if k(nil, @func() { }) == 1 { @func() { }() } else { @func() { }() }; for @func() { } == nil { @func() { }() }; " +
		"c := make(chan int, k(@func() { }, nil)); select { case c <- k(@func() { }, nil): @func() { }(); case make([]int, 1)[k(@func() { }, nil)] = <-c: default: { @func() { b() }() } } }"
	var offsets []int
	text := ""
	for piece := range strings.SplitSeq(s, "@") {
		text += piece
		offsets = append(offsets, len(text))
	}
	offsets = offsets[:len(offsets)-1]
	f := annotated(t, text)
	var got []int
	for _, n := range Literals(functions(f)[1]) {
		got = append(got, n.At)
	}
	if !slices.Equal(got, offsets) {
		t.Error(got, offsets)
	}
	for i, fn := range functions(f) {
		if want := functions(fn)[1:]; !slices.EqualFunc(Literals(fn), want, same) {
			t.Error(i, len(Literals(fn)), len(want))
		}
	}
	l := functions(f)
	if len(Literals(l[0])) != 0 || len(Literals(l[2])) != 0 || len(Literals(l[3])) != 1 || len(Literals(l[5])) != 2 {
		t.Error("literals of other functions")
	}
}

// P8.1: other nodes than functions have no variables and no literals, and only literals capture.
func TestOtherNodes(t *testing.T) {
	kinds := map[int]int{}
	for _, f := range files(t, 60, 4) {
		for n := range syntax.Walk(f) {
			switch n.Kind {
			case api.NLiteral:
			case api.NFunc:
				if got := Captures(n); len(got) > 0 {
					t.Errorf("%s: %s", n.Text, showCaptures(got))
				}
			default:
				kinds[n.Kind]++
				checkNothing(t, n)
			}
		}
	}
	if len(kinds) != api.NLiteral-2 {
		t.Error(len(kinds))
	}
	for _, n := range []api.Node{{}, {Kind: -1}, {Kind: api.NLiteral + 1}, {Kind: math.MaxInt}, {Kind: math.MinInt}, {Kind: api.NName, Text: "x", Ref: api.RefLocal, Up: 1}} {
		checkNothing(t, n)
	}
}

// P8.1: functions with as many levels as a file can have.
func TestDeepestLiterals(t *testing.T) {
	const count = 15 // each literal has three levels, and the file, main and its block have three, too
	s := "func main() { x := 1; " + strings.Repeat("f := func() { x = 2; ", count) + "print(x)" + strings.Repeat(" }", count) + " }"
	if _, _, e := parse.Parse(strings.Replace(s, "print(x)", "print(-x)", 1)); e != api.ErrLimit {
		t.Fatal(e)
	}
	l := functions(annotated(t, s))
	if len(l) != count+1 || !slices.Equal(Locals(l[0]), []api.Local{{Name: "x", Type: api.Type{Kind: api.TInt}, Boxed: true}, {Name: "f", Type: api.Type{Kind: api.TFunc}}}) {
		t.Fatal(len(l), showLocals(Locals(l[0])))
	}
	for i, n := range l {
		if got := len(Literals(n)); got != count-i {
			t.Error(i, got)
		}
		if i == 0 {
			continue
		}
		if got := Captures(n); !slices.Equal(got, []api.Capture{{Up: i}}) {
			t.Error(i, showCaptures(got))
		}
		if got := Locals(n); len(got) > 1 || i < count && showLocals(got) != "f func()" {
			t.Error(i, showLocals(got))
		}
	}
}
