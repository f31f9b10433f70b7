package parse

import (
	"math"
	"slices"
	"strconv"
	"strings"
	"testing"

	"interleave/api"
	"interleave/syntax"
)

// accepted returns the tree of a text that must be accepted.
func accepted(t *testing.T, s string) api.Node {
	t.Helper()
	n, at, e := Parse(s)
	if e != api.OK || at != 0 || n.Kind != api.NFile {
		t.Fatalf("%.200q: %d %v %.200s", s, at, e, show(n))
	}
	return n
}

// checkTree requires that s is accepted, and has this tree.
func checkTree(t *testing.T, s, want string) {
	t.Helper()
	if got := show(accepted(t, s)); got != want {
		t.Errorf("%q: %s, want %s", s, got, want)
	}
}

// shifted returns a tree with offsets that are larger by a number. Missing nodes have none.
func shifted(n api.Node, by int) api.Node {
	if n.Kind != api.NNone {
		n.At += by
	}
	n.Kids = slices.Clone(n.Kids)
	for i, k := range n.Kids {
		n.Kids[i] = shifted(k, by)
	}
	return n
}

// checkStatements requires the trees of the statements of a function. Their offsets are those in s.
func checkStatements(t *testing.T, s string, want ...string) {
	t.Helper()
	const before = "func f() {"
	for _, after := range []string{"}", "\n}", ";}", " // c\n\n}\n"} {
		f := accepted(t, before+s+after).Kids[0]
		var got []string
		for _, k := range f.Kids[2].Kids {
			got = append(got, show(shifted(k, -len(before))))
		}
		if !slices.Equal(got, want) {
			t.Errorf("%q: %q, want %q", s, got, want)
		}
	}
}

// checkExpression requires the tree of an expression, where it has a statement of its own and where another one follows.
func checkExpression(t *testing.T, s, want string) {
	t.Helper()
	for _, around := range [][2]string{{"print(", ")"}, {"a := ", ""}, {"a <- ", ""}, {"a = ", "; {}"}, {"return ", ""}, {"if ", "{}"}, {"for ", "{}"}, {"a.b[", "]()"}, {"a(b, ", ", c)"}, {"(", ") = a"}} {
		f := accepted(t, "func f(){"+around[0]+s+around[1]+"}")
		found := false
		for n := range syntax.Walk(f) {
			found = found || show(shifted(n, -9-len(around[0]))) == want
		}
		if !found {
			t.Errorf("%q in %q: %s, want %s", s, around, show(f), want)
		}
	}
}

// P4.1: the examples of the chapter.
func TestExamples(t *testing.T) {
	checkTree(t, "var x int", "file@0(var x@0(type int@6, none))")
	checkTree(t, "func f() { a = b + c*2 }", "file@0(func f@0(params@6, none, block@9(assign@13(name a@11, binary +@17(name b@15, binary *@20(name c@19, int #2@21))))))")
	checkError(t, "func f() { x + 1 ^}")
	checkError(t, "func f() { go x^")
	checkError(t, "var x^")
	checkError(t, "func f() { if a { } else ^b }")
}

// P4.1: texts without declarations.
func TestEmptyTexts(t *testing.T) {
	for _, s := range []string{"", " ", "\n", "\r\n\t\n", "// c", "// c\n\n//"} {
		checkTree(t, s, "file@0")
	}
	for _, s := range []string{"^;", "\n^;", "// c\n ^x", "^}", "^{ }", "^1"} {
		checkError(t, s)
	}
}

// P4.1: declarations and their offsets.
func TestDeclarations(t *testing.T) {
	checkTree(t, " type T struct { }", "file@0(struct T@1)")
	checkTree(t, "type T struct {\n\tm mutex // c\n\tnext *T }\n", "file@0(struct T@0(field m@17(type mutex@19), field next@31(pointer T@36)))")
	checkTree(t, "type T struct {a int;b bool;}", "file@0(struct T@0(field a@15(type int@17), field b@21(type bool@23)))")
	checkTree(t, "var x int;\nvar y *T;", "file@0(var x@0(type int@6, none), var y@11(pointer T@17, none))")
	checkTree(t, "func f() {}", "file@0(func f@0(params@6, none, block@9))")
	checkTree(t, "func f(a int) *T {}", "file@0(func f@0(params@6(field a@7(type int@9)), pointer T@14, block@17))")
	checkTree(t, "\nfunc main(a chan int,\n b []int) func() {\n}", "file@0(func main@1(params@10(field a@11(type chan@13), field b@24(type []int@26)), type func@33, block@40))")
	checkTree(t, "func f() { }; func f() { }\nvar f int\ntype f struct { }", "file@0(func f@0(params@6, none, block@9), func f@14(params@20, none, block@23), var f@27(type int@33, none), struct f@37)")
}

// P4.1: every type, in every place where a type may stand.
func TestTypes(t *testing.T) {
	for _, x := range []struct{ s, want string }{
		{"int", "type int"}, {"bool", "type bool"}, {"*T", "pointer T"}, {"* T", "pointer T"}, {"[]int", "type []int"}, {"[ ] int", "type []int"},
		{"chan int", "type chan"}, {"func()", "type func"}, {"func ( )", "type func"}, {"mutex", "type mutex"}, {"rwmutex", "type rwmutex"},
		{"group", "type group"}, {"once", "type once"}, {"atomic", "type atomic"},
	} {
		checkTree(t, "var x "+x.s, "file@0(var x@0("+x.want+"@6, none))")
		checkTree(t, "func f(a "+x.s+") { }", "file@0(func f@0(params@6(field a@7("+x.want+"@9)), none, block@"+strconv.Itoa(11+len(x.s))+"))")
		checkTree(t, "func f() "+x.s+"{ }", "file@0(func f@0(params@6, "+x.want+"@9, block@"+strconv.Itoa(9+len(x.s))+"))")
		checkTree(t, "type T struct { a "+x.s+" }", "file@0(struct T@0(field a@16("+x.want+"@18)))")
		checkStatements(t, "var x "+x.s, "var x@0("+x.want+"@6, none)")
		checkStatements(t, "var x "+x.s+" = nil", "var x@0("+x.want+"@6, nil@"+strconv.Itoa(9+len(x.s))+")")
	}
}

// P4.1: statements and their offsets.
func TestStatements(t *testing.T) {
	for _, x := range []struct{ s, want string }{
		{"var x int", "var x@0(type int@6, none)"},
		{"var x bool = a == b", "var x@0(type bool@6, binary ==@15(name a@13, name b@18))"},
		{"x := <-c", "define x@0(receive@5(name c@7))"},
		{"x = y", "assign@2(name x@0, name y@4)"},
		{"a.b[1] = -1", "assign@7(index@3(member b@1(name a@0), int #1@4), unary -@9(int #1@10))"},
		{"a + b = c", "assign@6(binary +@2(name a@0, name b@4), name c@8)"},
		{"1 = nil", "assign@2(int #1@0, nil@4)"},
		{"c <- x", "send@2(name c@0, name x@5)"},
		{"<-c <- <-d", "send@4(receive@0(name c@2), receive@7(name d@9))"},
		{"a || b <- c && d", "send@7(binary ||@2(name a@0, name b@5), binary &&@12(name c@10, name d@15))"},
		{"f()", "expr@0(call@1(name f@0))"},
		{"(f)()", "expr@0(call@3(name f@1))"},
		{"((f()))", "expr@0(call@3(name f@2))"},
		{"a.b(1)(2, c)", "expr@0(call@6(call@3(member b@1(name a@0), int #1@4), int #2@7, name c@10))"},
		{"func() { }()", "expr@0(call@10(literal@0(block@7)))"},
		{"1()", "expr@0(call@1(int #1@0))"},
		{"<-c", "expr@0(receive@0(name c@2))"},
		{"<-c.d()", "expr@0(receive@0(call@5(member d@3(name c@2))))"},
		{"( (<-c))", "expr@0(receive@3(name c@5))"},
		{"<-<-c", "expr@0(receive@0(receive@2(name c@4)))"},
		{"go f(x)", "go@0(call@4(name f@3, name x@5))"},
		{"go (f())", "go@0(call@5(name f@4))"},
		{"go func() { x = 1 }()", "go@0(call@19(literal@3(block@10(assign@14(name x@12, int #1@16)))))"},
		{"go (a + b)()", "go@0(call@10(binary +@6(name a@4, name b@8)))"},
		{"defer m.Unlock()", "defer@0(call@14(member Unlock@7(name m@6)))"},
		{"defer a[1](2)(3)", "defer@0(call@13(call@10(index@7(name a@6, int #1@8), int #2@11), int #3@14))"},
		{"close(c)", "close@0(name c@6)"},
		{"close ( <-c )", "close@0(receive@8(name c@10))"},
		{"print(x % 2)", "print@0(binary %@8(name x@6, int #2@10))"},
		{"{ }", "block@0"},
		{"{ { }; f() }", "block@0(block@2, expr@7(call@8(name f@7)))"},
		{"return", "return@0"},
		{"return a - b", "return@0(binary -@9(name a@7, name b@11))"},
		{"return func() { return }", "return@0(literal@7(block@14(return@16)))"},
		{"for { }", "for@0(none, block@4)"},
		{"for a < b { f(); }", "for@0(binary <@6(name a@4, name b@8), block@10(expr@12(call@13(name f@12))))"},
		{"for func() { }() { }", "for@0(call@14(literal@4(block@11)), block@17)"},
		{"if a { }", "if@0(name a@3, block@5, none)"},
		{"if (a) { b() } else { }", "if@0(name a@4, block@7(expr@9(call@10(name b@9))), block@20)"},
		{"if a { } else if b { }", "if@0(name a@3, block@5, if@14(name b@17, block@19, none))"},
		{"if a { } else if b { } else if c { } else { }", "if@0(name a@3, block@5, if@14(name b@17, block@19, if@28(name c@31, block@33, block@42)))"},
		{"if func() { } { }", "if@0(literal@3(block@10), block@14, none)"},
	} {
		checkStatements(t, x.s, x.want)
	}
	checkStatements(t, "a();b()\nc()", "expr@0(call@1(name a@0))", "expr@4(call@5(name b@4))", "expr@8(call@9(name c@8))")
	checkStatements(t, "x := 1;y = x\n\n\n{\n}\nreturn", "define x@0(int #1@5)", "assign@9(name y@7, name x@11)", "block@15", "return@19")
	checkStatements(t, "if a {\n}\nif b {\n} else {\n}", "if@0(name a@3, block@5, none)", "if@9(name b@12, block@14, block@23)")
}

// P4.1: select statements.
func TestSelects(t *testing.T) {
	for _, x := range []struct{ s, want string }{
		{"select { }", "select@0"},
		{"select {\n}", "select@0"},
		{"select { default: }", "select@0(case@9(none, block@16))"},
		{"select { case c <- 1: }", "select@0(case@9(send@16(name c@14, int #1@19), block@20))"},
		{"select { case a + b <- <-c + 1: f() }", "select@0(case@9(send@20(binary +@16(name a@14, name b@18), binary +@27(receive@23(name c@25), int #1@29)), block@30(expr@32(call@33(name f@32)))))"},
		{"select { case <-c: }", "select@0(case@9(expr@14(receive@14(name c@16)), block@17))"},
		{"select { case (<-c): }", "select@0(case@9(expr@14(receive@15(name c@17)), block@19))"},
		{"select { case <-c <- 1: }", "select@0(case@9(send@18(receive@14(name c@16), int #1@21), block@22))"},
		{"select { case x = <-c.d: }", "select@0(case@9(assign@16(name x@14, receive@18(member d@21(name c@20))), block@23))"},
		{"select { case <-a = <-<-c: }", "select@0(case@9(assign@18(receive@14(name a@16), receive@20(receive@22(name c@24))), block@25))"},
		{"select { case x.y[1] = <- -c: }", "select@0(case@9(assign@21(index@17(member y@15(name x@14), int #1@18), receive@23(unary -@26(name c@27))), block@28))"},
		{"select { case x := <-(a + b): }", "select@0(case@9(define x@14(receive@19(binary +@24(name a@22, name b@26))), block@28))"},
		{"select { default: default: }", "select@0(case@9(none, block@16), case@18(none, block@25))"},
		{"select { case <-c: return; default: return }", "select@0(case@9(expr@14(receive@14(name c@16)), block@17(return@19)), case@27(none, block@34(return@36)))"},
		{"select { case <-c: f(); x = 1\ndefault:\n\n}", "select@0(case@9(expr@14(receive@14(name c@16)), block@17(expr@19(call@20(name f@19)), assign@26(name x@24, int #1@28))), case@30(none, block@37))"},
		{"select { case <-c: select { default: {\n}\n}\n}", "select@0(case@9(expr@14(receive@14(name c@16)), block@17(select@19(case@28(none, block@35(block@37))))))"},
	} {
		checkStatements(t, x.s, x.want)
	}
}

// P4.1: expressions and their offsets.
func TestExpressions(t *testing.T) {
	for _, x := range []struct{ s, want string }{
		{"0", "int@0"}, {"7", "int #7@0"}, {"9223372036854775807", "int #" + strconv.Itoa(math.MaxInt) + "@0"},
		{"true", "bool #1@0"}, {"false", "bool@0"}, {"nil", "nil@0"}, {"x", "name x@0"}, {"(x)", "name x@1"}, {"((( 1)) )", "int #1@4"},
		{"new(T)", "new T@0"}, {"new ( T )", "new T@0"},
		{"make([]int, 3)", "slice@0(int #3@12)"}, {"make([]int, a + 1)", "slice@0(binary +@14(name a@12, int #1@16))"},
		{"make(chan int, 0)", "chan@0(int@15)"}, {"make(chan int, len(x))", "chan@0(len@15(name x@19))"},
		{"len(x)", "len@0(name x@4)"}, {"len((x))", "len@0(name x@5)"}, {"len(a).b", "member b@6(len@0(name a@4))"},
		{"func() { }", "literal@0(block@7)"}, {"func() {\nf()\n}", "literal@0(block@7(expr@9(call@10(name f@9))))"},
		{"-x", "unary -@0(name x@1)"}, {"!x", "unary !@0(name x@1)"}, {"- - !x", "unary -@0(unary -@2(unary !@4(name x@5)))"}, {"--x", "unary -@0(unary -@1(name x@2))"},
		{"<-c", "receive@0(name c@2)"}, {"<--!<-c", "receive@0(unary -@2(unary !@3(receive@4(name c@6))))"}, {"-(x)", "unary -@0(name x@2)"}, {"(-(x))", "unary -@1(name x@3)"},
		{"a.b", "member b@1(name a@0)"}, {"a . b . c", "member c@6(member b@2(name a@0))"}, {"(a.b)", "member b@2(name a@1)"},
		{"a[i]", "index@1(name a@0, name i@2)"}, {"a[b[1]]", "index@1(name a@0, index@3(name b@2, int #1@4))"}, {"a[1][2]", "index@4(index@1(name a@0, int #1@2), int #2@5)"},
		{"f()", "call@1(name f@0)"}, {"f(1, -x, (y))", "call@1(name f@0, int #1@2, unary -@5(name x@6), name y@10)"}, {"f()()", "call@3(call@1(name f@0))"}, {"(f) (x)", "call@4(name f@1, name x@5)"},
		{"-a.b", "unary -@0(member b@2(name a@1))"}, {"(-a).b", "member b@4(unary -@1(name a@2))"}, {"<-a[1]", "receive@0(index@3(name a@2, int #1@4))"}, {"(<-a)[1]", "index@5(receive@1(name a@3), int #1@6)"},
		{"!f(x)", "unary !@0(call@2(name f@1, name x@3))"}, {"(a + b)(c)", "call@7(binary +@3(name a@1, name b@5), name c@8)"},
		{"nil.a", "member a@3(nil@0)"}, {"1[2]", "index@1(int #1@0, int #2@2)"}, {"true()", "call@4(bool #1@0)"}, {"new(T).a", "member a@6(new T@0)"}, {"func() { }.a", "member a@10(literal@0(block@7))"},
		{"a + -b", "binary +@2(name a@0, unary -@4(name b@5))"}, {"-a + b", "binary +@3(unary -@0(name a@1), name b@5)"}, {"-(a + b)", "unary -@0(binary +@4(name a@2, name b@6))"},
		{"<-a == <-b", "binary ==@4(receive@0(name a@2), receive@7(name b@9))"}, {"a - - b", "binary -@2(name a@0, unary -@4(name b@6))"},
		{"a +\n\n b", "binary +@2(name a@0, name b@6)"}, {"f(\na,\n// c\nb)", "call@1(name f@0, name a@3, name b@11)"}, {"a.\nb", "member b@1(name a@0)"}, {"!\nx", "unary !@0(name x@2)"},
	} {
		checkExpression(t, x.s, x.want)
	}
}

// levels of the binary operators, from the lowest precedence to the highest one.
var operatorLevels = []string{"||", "&&", "== != < <= > >=", "+ -", "* / %"}

// P4.1: operators with the higher precedence group first, equal ones to the left, unless there are parentheses.
func TestPrecedences(t *testing.T) {
	for i, first := range operatorLevels {
		for j, second := range operatorLevels {
			for _, a := range strings.Fields(first) {
				for _, b := range strings.Fields(second) {
					checkGrouping(t, a, b, i < j)
				}
			}
		}
	}
	checkExpression(t, "a||b&&c==d+e*f", "binary ||@1(name a@0, binary &&@4(name b@3, binary ==@7(name c@6, binary +@10(name d@9, binary *@12(name e@11, name f@13)))))")
	checkExpression(t, "a*b+c<d&&e||f", "binary ||@10(binary &&@7(binary <@5(binary +@3(binary *@1(name a@0, name b@2), name c@4), name d@6), name e@9), name f@12)")
	checkExpression(t, "a-b-c-d", "binary -@5(binary -@3(binary -@1(name a@0, name b@2), name c@4), name d@6)")
	checkExpression(t, "a-b*c-d", "binary -@5(binary -@1(name a@0, binary *@3(name b@2, name c@4)), name d@6)")
	checkExpression(t, "a&&b||c&&d", "binary ||@4(binary &&@1(name a@0, name b@3), binary &&@7(name c@6, name d@9))")
}

// checkGrouping requires that two operators in succession group to the right, or to the left.
func checkGrouping(t *testing.T, a, b string, right bool) {
	t.Helper()
	x, y := strconv.Itoa(2), strconv.Itoa(5+len(a))
	toLeft := "binary " + b + "@" + y + "(binary " + a + "@" + x + "(name x@0, name y@" + strconv.Itoa(3+len(a)) + "), name z@" + strconv.Itoa(6+len(a)+len(b)) + ")"
	toRight := "binary " + a + "@" + x + "(name x@0, binary " + b + "@" + y + "(name y@" + strconv.Itoa(3+len(a)) + ", name z@" + strconv.Itoa(6+len(a)+len(b)) + "))"
	s := "x " + a + " y " + b + " z"
	if right {
		checkExpression(t, s, toRight)
	} else {
		checkExpression(t, s, toLeft)
	}
}
