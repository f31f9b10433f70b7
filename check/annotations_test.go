package check

import (
	"strings"
	"testing"

	"interleave/api"
	"interleave/syntax"
)

// annotations returns the labels of the nodes that Check gives something: declarations of local variables, and expressions.
func annotations(n api.Node) string {
	var l []string
	for x := range syntax.Walk(n) {
		expression := x.Kind >= api.NInt
		if expression || x.Ref != 0 || x.Num != 0 || x.Up != 0 || x.Type != (api.Type{}) {
			l = append(l, label(x))
		}
	}
	return strings.Join(l, ", ")
}

// checkAnnotations requires the labels of a file.
func checkAnnotations(t *testing.T, s, want string) {
	t.Helper()
	for _, f := range []api.Node{parsed(t, s), numbered(parsed(t, s))} {
		if got := annotations(accepted(t, f)); got != want {
			t.Errorf("%q:\n%s, want\n%s", s, got, want)
		}
	}
}

// P6.1: the example of the chapter, and other uses of variables.
func TestAnnotationsOfVariables(t *testing.T) {
	checkAnnotations(t, "var g int\nfunc main() { x := g; func() { x = x + 1 }() }",
		"x local0, g global0 int, call, literal func(), x local0 up1 int, + int, x local0 up1 int, int int")
	checkAnnotations(t, "var a int; func f(x int, y bool) int { var z int = x; return z }; type T struct { x int }; var b *T; func main() { b = nil; a = f(1, true) }",
		"x local0, y local1, z local2, x local0 int, z local2 int, b global1 *T, nil nil, a global0 int, call int, f func0, int int, bool bool")
	checkAnnotations(t, "func main() { x := 1; { x := true; print(x); y := x }; z := x; x = z }",
		"x local0, int int, x local1, bool bool, x local1 bool, y local2, x local1 bool, z local3, x local0 int, x local0 int, z local3 int")
	checkAnnotations(t, "func main() { x := 1; x = x; { x := x == 1; print(x) } }",
		"x local0, int int, x local0 int, x local0 int, x local1, == bool, x local0 int, int int, x local1 bool")
	checkAnnotations(t, "func f(a int) { a = 1 }; func main() { var a bool; a = true }; func g(a *T, b int) { b = a.n }; type T struct { n int }",
		"a local0, a local0 int, int int, a local0, a local0 bool, bool bool, a local0, b local1, b local1 int, n int, a local0 *T")
	checkAnnotations(t, "func main() { if true { a := 1; print(a) } else if false { b := 2; print(b) } else { c := 3; print(c) }; for { d := 4; print(d) } }",
		"bool bool, a local0, int int, a local0 int, bool bool, b local1, int int, b local1 int, c local2, int int, c local2 int, d local3, int int, d local3 int")
	checkAnnotations(t, "func main() { c := make(chan int, 0); select { case x := <-c: print(x); default: x := true; print(x); case c <- 1: case x := <-c: y := x; print(y) } }",
		"c local0, chan chan int, int int, x local1, receive int, c local0 chan int, x local1 int, x local2, bool bool, x local2 bool, c local0 chan int, int int, x local3, receive int, c local0 chan int, y local4, x local3 int, y local4 int")
}

// P6.1: variables that function literals use.
func TestAnnotationsOfLiterals(t *testing.T) {
	checkAnnotations(t, "func f(p int) { a := p; x := func() { b := a; y := func() { c := b + a + p; a = c }; y(); b = 2 }; d := 3; x(); d = a }; func main() { }",
		"p local0, a local1, p local0 int, x local2, literal func(), b local0, a local1 up1 int, y local1, literal func(), c local0, + int, + int, b local0 up1 int, a local1 up2 int, p local0 up2 int, "+
			"a local1 up2 int, c local0 int, call, y local1 func(), b local0 int, int int, d local3, int int, call, x local2 func(), d local3 int, a local1 int")
	checkAnnotations(t, "func main() { x := 1; func() { x := x; func() { x = 2 }() }(); func() { x = 3 }(); x = 4 }",
		"x local0, int int, call, literal func(), x local0, x local0 up1 int, call, literal func(), x local0 up1 int, int int, call, literal func(), x local0 up1 int, int int, x local0 int, int int")
	checkAnnotations(t, "var x int; func main() { f := func() { x = 1; x := true; x = false }; f(); x = 2 }",
		"f local0, literal func(), x global0 int, int int, x local0, bool bool, x local0 bool, bool bool, call, f local0 func(), x global0 int, int int")
	checkAnnotations(t, "func main() { func() { x := 1; print(x) }(); func() { y := 2; print(y); z := y; print(z) }(); x := 1; print(x) }",
		"call, literal func(), x local0, int int, x local0 int, call, literal func(), y local0, int int, y local0 int, z local1, y local0 int, z local1 int, x local0, int int, x local0 int")
	checkAnnotations(t, "func main() { a := 1; func() { b := 1; { func() { c := a; if true { d := b; print(d + c) } }() } }() }",
		"a local0, int int, call, literal func(), b local0, int int, call, literal func(), c local0, a local0 up2 int, bool bool, d local1, b local0 up1 int, + int, d local1 int, c local0 int")
}

// P6.1: functions, closures and methods that are called or not.
func TestAnnotationsOfCalls(t *testing.T) {
	checkAnnotations(t, "func e(i int) { }; var v func(); func f() { }; func g() int { return 1 }; func main() { f(); e(g()); v = f; v(); x := main; x(); func() { f(); x() }() }",
		"i local0, int int, call, f func1 func(), call, e func0, call int, g func2, v global0 func(), f func1 func(), call, v global0 func(), x local0, main func3 func(), call, x local0 func(), "+
			"call, literal func(), call, f func1 func(), call, x local0 up1 func()")
	checkAnnotations(t, "type T struct { m mutex; t *T; f func(); a atomic }; var m rwmutex; var t *T; func main() { m.RLock(); t.m.Lock(); t.t.f(); x := t.t.a.Add(1); print(t.a.CompareAndSwap(x, 2)); go m.Lock(); defer t.m.Unlock() }",
		"call, RLock, m global0 rwmutex, call, Lock, m mutex, t global1 *T, call, f func(), t *T, t global1 *T, x local0, call int, Add, a atomic, t *T, t global1 *T, int int, "+
			"call bool, CompareAndSwap, a atomic, t global1 *T, x local0 int, int int, call, Lock, m global0 rwmutex, call, Unlock, m mutex, t global1 *T")
	checkAnnotations(t, "var o once; var g group; func main() { o.Do(main); o.Do(nil); x := func() { g.Add(1); g.Done() }; o.Do(x); g.Wait() }",
		"call, Do, o global0 once, main func0 func(), call, Do, o global0 once, nil nil, x local0, literal func(), call, Add, g global1 group, int int, call, Done, g global1 group, "+
			"call, Do, o global0 once, x local0 func(), call, Wait, g global1 group")
	checkAnnotations(t, "type T struct { m mutex }; func f(t *T) *T { return t }; func main() { f(new(T)).m.Lock(); go f(nil); defer func() { }() }",
		"t local0, t local0 *T, call, Lock, m mutex, call *T, f func0, T *T, call *T, f func0, nil nil, call, literal func()")
}

// P6.1: the types of all other expressions.
func TestAnnotationsOfExpressions(t *testing.T) {
	checkAnnotations(t, "func main() { s := make([]int, 1); s[0] = -s[len(s)]; c := make(chan int, 2); c <- <-c; print(!(1 < 2)); var f func() = nil; f = func() { }; b := s == nil && f != nil; print(b) }",
		"s local0, slice []int, int int, index int, s local0 []int, int int, - int, index int, s local0 []int, len int, s local0 []int, c local1, chan chan int, int int, c local1 chan int, receive int, c local1 chan int, "+
			"! bool, < bool, int int, int int, f local2, nil nil, f local2 func(), literal func(), b local3, && bool, == bool, s local0 []int, nil nil, != bool, f local2 func(), nil nil, b local3 bool")
}

// P6.1: offsets, texts and numbers stay, and what is no expression and no declaration of a local variable has no annotation.
func TestWhatStays(t *testing.T) {
	s := "type T struct { x int; y *T }; var g *T; func f(p int, q *T) *T { var x int; for { return q } }; func main() { if true { return } else { print(0); print(12); print(true) }; select { default: go main() }; g.x = f(7, nil).x }"
	for _, f := range []api.Node{parsed(t, s), numbered(parsed(t, s))} {
		checkStays(t, f, accepted(t, f), api.NNone)
	}
}

// checkStays compares the nodes of a file and of its annotated file. Parent is the kind of the node around them.
func checkStays(t *testing.T, a, b api.Node, parent int) {
	t.Helper()
	if a.Kind != b.Kind || a.Text != b.Text || a.At != b.At || len(a.Kids) != len(b.Kids) {
		t.Fatalf("%s, want %s", show(b), show(a))
	}
	declaration := a.Kind == api.NDefine || a.Kind == api.NVar && parent != api.NFile || a.Kind == api.NField && parent == api.NParams
	constant := a.Kind == api.NInt || a.Kind == api.NBool
	named := a.Kind == api.NName
	if constant && a.Num != b.Num || !constant && !named && !declaration && b.Num != 0 {
		t.Error(label(b), b.Num)
	}
	if (b.Ref != 0) != (named || declaration) || declaration && b.Ref != api.RefLocal || b.Up != 0 {
		t.Error(label(b))
	}
	if b.Type != (api.Type{}) && a.Kind < api.NInt {
		t.Error(label(b))
	}
	for i := range a.Kids {
		checkStays(t, a.Kids[i], b.Kids[i], a.Kind)
	}
}
