package syntax

import (
	"math"
	"strings"
	"testing"

	"interleave/api"
)

// checkPrint requires a text of a file.
func checkPrint(t *testing.T, n api.Node, want string) {
	t.Helper()
	if s := Print(n); s != want {
		t.Errorf("%s:\n%s\nwant\n%s", show(n), s, want)
	}
}

// checkStatement requires the text of a statement, which is given without the tab of the function.
func checkStatement(t *testing.T, n api.Node, want string) {
	t.Helper()
	checkPrint(t, within(n), "func f() {\n\t"+strings.ReplaceAll(want, "\n", "\n\t")+"\n}\n")
}

// checkExpression requires the text of an expression.
func checkExpression(t *testing.T, n api.Node, want string) {
	t.Helper()
	checkStatement(t, printing(n), "print("+want+")")
}

// P3.1: the examples of the chapter.
func TestExamples(t *testing.T) {
	sum := binary("<", name("a"), binary("+", name("x"), integer(1)))
	f := file(named(api.NVar, "x", typed("int"), none()),
		named(api.NFunc, "f", node(api.NParams, field("a", typed("int"))), typed("bool"), block(node(api.NReturn, sum))))
	checkPrint(t, f, "var x int\nfunc f(a int) bool {\n\treturn a < (x + 1)\n}\n")
	if Count(f) != 16 {
		t.Error(Count(f))
	}
	checkValid(t, file(), true)
	checkPrint(t, file(), "")
}

// P3.1: the texts of declarations.
func TestDeclarations(t *testing.T) {
	checkPrint(t, file(named(api.NStruct, "T")), "type T struct {\n}\n")
	checkPrint(t, file(named(api.NStruct, "T", field("next", named(api.NPointer, "T")))), "type T struct {\n\tnext *T\n}\n")
	var fields kids
	want := "type T struct {\n"
	for _, s := range strings.Fields(typeTexts) {
		fields = append(fields, field("a", typed(s)))
		want += "\ta " + map[string]string{"chan": "chan int", "func": "func()"}[s]
		if s != "chan" && s != "func" {
			want += s
		}
		want += "\n"
	}
	checkPrint(t, file(named(api.NStruct, "T", fields...)), want+"}\n")
	params := node(api.NParams, field("a", typed("[]int")), field("b", typed("chan")), field("c", typed("func")))
	checkPrint(t, file(named(api.NFunc, "g", params, named(api.NPointer, "T"), block())), "func g(a []int, b chan int, c func()) *T {\n}\n")
	checkPrint(t, file(named(api.NFunc, "g", params, none(), block())), "func g(a []int, b chan int, c func()) {\n}\n")
	checkPrint(t, file(named(api.NFunc, "g", node(api.NParams), typed("func"), block())), "func g() func() {\n}\n")
	checkPrint(t, file(function(), named(api.NVar, "x", typed("mutex"), none()), named(api.NStruct, "S")), "func f() {\n}\nvar x mutex\ntype S struct {\n}\n")
}

// P3.1: the texts of statements.
func TestStatements(t *testing.T) {
	x, c, one, negative := name("x"), name("c"), integer(1), unary("-", integer(1))
	run := call(literal(printing(x)))
	for _, s := range []struct {
		n    api.Node
		want string
	}{
		{named(api.NVar, "x", typed("int"), none()), "var x int"},
		{named(api.NVar, "x", typed("int"), binary("+", one, one)), "var x int = 1 + 1"},
		{named(api.NDefine, "x", negative), "x := -1"},
		{node(api.NAssign, node(api.NIndex, x, one), binary("*", x, x)), "x[1] = x * x"},
		{node(api.NAssign, binary("+", x, x), receive(c)), "x + x = <-c"},
		{action(receive(c)), "<-c"},
		{action(call(x, one)), "x(1)"},
		{node(api.NGo, run), "go func() {\n\tprint(x)\n}()"},
		{node(api.NDefer, call(named(api.NMember, "m", x))), "defer x.m()"},
		{node(api.NSend, c, one), "c <- 1"},
		{node(api.NSend, receive(c), receive(c)), "<-c <- <-c"},
		{node(api.NClose, c), "close(c)"},
		{printing(boolean(1)), "print(true)"},
		{block(), "{\n}"},
		{block(block(), action(run)), "{\n\t{\n\t}\n\tfunc() {\n\t\tprint(x)\n\t}()\n}"},
		{node(api.NIf, x, block(), none()), "if x {\n}"},
		{node(api.NIf, x, block(printing(x)), block(printing(one))), "if x {\n\tprint(x)\n} else {\n\tprint(1)\n}"},
		{node(api.NIf, x, block(), node(api.NIf, binary("<", x, one), block(), node(api.NIf, c, block(), none()))), "if x {\n} else if x < 1 {\n} else if c {\n}"},
		{node(api.NIf, run, block(), none()), "if func() {\n\tprint(x)\n}() {\n}"},
		{node(api.NFor, none(), block()), "for {\n}"},
		{node(api.NFor, x, block(printing(x))), "for x {\n\tprint(x)\n}"},
		{node(api.NReturn), "return"},
		{node(api.NReturn, binary("==", x, node(api.NNil))), "return x == nil"},
	} {
		checkStatement(t, s.n, s.want)
	}
}

// P3.1: the texts of select statements, whose cases have the tabs of the statement.
func TestSelects(t *testing.T) {
	x, c := name("x"), name("c")
	checkStatement(t, node(api.NSelect), "select {\n}")
	checkStatement(t, node(api.NSelect, choice(none())), "select {\ndefault:\n}")
	inner := node(api.NSelect, choice(named(api.NDefine, "x", receive(c)), printing(x)), choice(none(), block(printing(x))))
	checkStatement(t, inner, "select {\ncase x := <-c:\n\tprint(x)\ndefault:\n\t{\n\t\tprint(x)\n\t}\n}")
	checkStatement(t, node(api.NSelect, choice(node(api.NSend, c, x), inner, node(api.NReturn)), choice(action(receive(c)))),
		"select {\ncase c <- x:\n\tselect {\n\tcase x := <-c:\n\t\tprint(x)\n\tdefault:\n\t\t{\n\t\t\tprint(x)\n\t\t}\n\t}\n\treturn\ncase <-c:\n}")
	checkStatement(t, node(api.NSelect, choice(node(api.NAssign, x, receive(c)), node(api.NReturn)), choice(node(api.NAssign, x, receive(c)))),
		"select {\ncase x = <-c:\n\treturn\ncase x = <-c:\n}")
	literals := node(api.NSend, call(literal(printing(x))), literal())
	checkStatement(t, block(node(api.NSelect, choice(literals, printing(c)))),
		"{\n\tselect {\n\tcase func() {\n\t\tprint(x)\n\t}() <- func() {\n\t}:\n\t\tprint(c)\n\t}\n}")
}

// P3.1: the texts of expressions.
func TestExpressions(t *testing.T) {
	x, y, one := name("x"), name("y"), integer(1)
	for _, s := range []struct {
		n    api.Node
		want string
	}{
		{integer(0), "0"},
		{integer(math.MaxInt), "9223372036854775807"},
		{boolean(0), "false"},
		{node(api.NNil), "nil"},
		{name("_a1"), "_a1"},
		{named(api.NNew, "T"), "new(T)"},
		{node(api.NSlice, one), "make([]int, 1)"},
		{node(api.NChan, binary("+", x, one)), "make(chan int, x + 1)"},
		{node(api.NLen, unary("-", x)), "len(-x)"},
		{literal(), "func() {\n}"},
		{literal(node(api.NReturn, literal(printing(x)))), "func() {\n\treturn func() {\n\t\tprint(x)\n\t}\n}"},
		{call(x), "x()"},
		{call(x, one, literal(), binary("%", x, y)), "x(1, func() {\n}, x % y)"},
		{call(call(x), x), "x()(x)"},
		{named(api.NMember, "a", named(api.NMember, "b", node(api.NIndex, x, binary("/", x, y)))), "x[x / y].b.a"},
		{named(api.NMember, "a", one), "1.a"},
		{unary("-", unary("!", unary("-", x))), "-!-x"},
		{receive(receive(unary("-", x))), "<-<--x"},
		{unary("!", receive(named(api.NMember, "a", x))), "!<-x.a"},
	} {
		checkExpression(t, s.n, s.want)
	}
}

// P3.1: binary operators stand between blanks, and their operands in parentheses if they are binary.
func TestBinaryOperands(t *testing.T) {
	x, y := name("x"), name("y")
	for _, op := range strings.Fields(binaryOperators) {
		n := binary(op, x, y)
		s := "x " + op + " y"
		checkExpression(t, n, s)
		checkExpression(t, binary("-", n, n), "("+s+") - ("+s+")")
		checkExpression(t, binary(op, n, unary("-", y)), "("+s+") "+op+" -y")
		checkExpression(t, binary(op, receive(x), n), "<-x "+op+" ("+s+")")
		checkExpression(t, unary("-", n), "-("+s+")")
		checkExpression(t, unary("!", n), "!("+s+")")
		checkExpression(t, receive(n), "<-("+s+")")
		checkExpression(t, call(x, n, n), "x("+s+", "+s+")")
	}
}

// P3.1: the first child of a member, an index or a call stands in parentheses if it has an operator.
func TestPrimaries(t *testing.T) {
	x := name("x")
	for _, p := range []struct {
		n    api.Node
		want string
	}{
		{x, "x"}, {integer(3), "3"}, {literal(), "func() {\n}"}, {call(x), "x()"}, {named(api.NNew, "T"), "new(T)"},
		{named(api.NMember, "m", x), "x.m"}, {node(api.NIndex, x, x), "x[x]"}, {node(api.NLen, x), "len(x)"},
		{node(api.NNil), "nil"}, {boolean(1), "true"}, {node(api.NSlice, x), "make([]int, x)"}, {node(api.NChan, x), "make(chan int, x)"},
		{binary("+", x, x), "(x + x)"}, {unary("-", x), "(-x)"}, {unary("!", x), "(!x)"}, {receive(x), "(<-x)"},
	} {
		checkExpression(t, named(api.NMember, "a", p.n), p.want+".a")
		checkExpression(t, node(api.NIndex, p.n, unary("-", x)), p.want+"[-x]")
		checkExpression(t, call(p.n, receive(x)), p.want+"(<-x)")
		checkStatement(t, node(api.NGo, call(p.n)), "go "+p.want+"()")
	}
}

// P3.1: what is no file has no text.
func TestNoText(t *testing.T) {
	checkPrint(t, api.Node{}, "")
	checkPrint(t, name("x"), "")
	checkPrint(t, function(), "")
	checkPrint(t, within(name("x")), "")
	checkPrint(t, within(nested(48, receive(name("x")))), "")
	checkPrint(t, file(function(), node(api.NFunc)), "")
	if Print(within(nested(47, receive(name("x"))))) == "" {
		t.Error("no text with 50 levels")
	}
}

// P3.1: the text of a file is the one that the chapter specifies, also where the file is annotated; what is no file has none.
func TestPrintReference(t *testing.T) {
	for _, size := range []int{4, 6, 9} {
		for _, f := range files(600, size) {
			checkPrint(t, f, specifiedText(f))
			checkPrint(t, annotate(f, 1), specifiedText(f))
		}
	}
	for _, f := range files(200, 4) {
		for _, g := range changes(f) {
			if Valid(g) {
				checkPrint(t, g, specifiedText(g))
			} else {
				checkPrint(t, g, "")
			}
		}
	}
}
