package compile

import (
	"slices"
	"strings"
	"testing"

	"interleave/api"
	"interleave/code"
)

// measure finds out whether a file is moderate.
type measure struct {
	nodes, locals, expression int // the largest numbers
}

// measured returns the largest numbers of nodes and local variables of functions of their own, and of nodes of expressions.
func measured(n api.Node) measure {
	var m measure
	var visit func(n api.Node, isPart bool)
	visit = func(n api.Node, isPart bool) {
		isOne := n.Kind >= api.NInt
		if n.Kind == api.NFunc || n.Kind == api.NLiteral {
			nodes, locals := 0, 0
			for _, k := range n.Kids {
				kNodes, kLocals := own(k)
				nodes, locals = nodes+kNodes, locals+kLocals
			}
			m.nodes, m.locals = max(m.nodes, nodes+1), max(m.locals, locals)
		}
		if isOne && !isPart {
			nodes, _ := own(n)
			m.expression = max(m.expression, nodes)
		}
		for _, k := range n.Kids {
			visit(k, isOne)
		}
	}
	visit(n, false)
	return m
}

// own returns the numbers of nodes and of declarations of a tree, not counting those within function literals.
func own(n api.Node) (int, int) {
	nodes, locals := 1, 0
	if n.Kind == api.NField || n.Kind == api.NVar || n.Kind == api.NDefine {
		locals = 1
	}
	if n.Kind != api.NLiteral {
		for _, k := range n.Kids {
			kNodes, kLocals := own(k)
			nodes, locals = nodes+kNodes, locals+kLocals
		}
	}
	return nodes, locals
}

func (m measure) isModerate() bool { return m.nodes <= 80 && m.locals <= 20 && m.expression <= 30 }

// P11.1: random moderate files are accepted.
func TestRandomModerateFiles(t *testing.T) {
	w := &author{chooser: &chooser{state: 47}, literals: true, short: true}
	found := 0
	for i := range 600 {
		f := parsed(t, w.program(i%4+1))
		if measured(f).isModerate() {
			found++
			accepted(t, f)
		}
	}
	if found < 200 {
		t.Error(found)
	}
}

// uses passes names to a function with 20 parameters, as many at a time.
func uses(names ...string) string {
	text := ""
	for len(names) >= 20 {
		text += "k(" + strings.Join(names[:20], ", ") + ")\n"
		names = names[20:]
	}
	return text
}

// numbered returns names that end in the numbers below n.
func numbered(name string, n int) []string { return strings.Fields(list(n, name+"# ")) }

// defined defines 20 variables.
func defined(name string) string { return list(20, name+"# := #\n") }

// nested writes functions around statements: each of them has 20 variables with one of the names.
func nested(statements string, names ...string) string {
	text, end := "func main() {\n", "}"
	for _, name := range names {
		text, end = text+defined(name)+"func() {\n", "}()\n"+end
	}
	return text + statements + "\n" + end
}

// checkModerate requires that a text is a moderate file, that it has a program, and that this does what its tree specifies.
func checkModerate(t *testing.T, name, text string) {
	t.Helper()
	f := annotated(t, parsed(t, text))
	if m := measured(f); !m.isModerate() {
		t.Errorf("%s: %+v", name, m)
	}
	p, e := Compile(f)
	if e != api.OK || !code.Valid(p) {
		t.Errorf("%s: %v", name, e)
		return
	}
	x, y := compiled(p), walked(newTree(f))
	if d := run(x, y, &chooser{}, counts{}, memoryDifference, budgetDifference); d != "" {
		t.Errorf("%s: %s", name, d)
	}
	y.stop()
}

const moderateHead = "var x int; var b bool; var s []int; var c chan int; var at atomic; var on once\n"

// P11.1: files that are as large as moderate ones can be are accepted, and do what they should.
func TestModerateFiles(t *testing.T) {
	globals := moderateHead + "func k(" + list(19, "p# int, ") + "q int) { print(p0); print(p1 * q) }\n"
	some := strings.Join(numbered("p", 19), " int, ") + " int, "
	a, b, c := numbered("a", 20), numbered("b", 20), numbered("c", 20)
	both := append(append([]string{}, a...), b...)
	for name, text := range map[string]string{
		"operands while a closure is made": "func f(" + some + "q int) int { return q }\nfunc g(" + list(6, "p# int, ") + "q func()) int { q(); return 1 }\nfunc main() {\n" + defined("a") +
			"a0 = f(" + strings.Repeat("x, ", 19) + "g(x, x, x, x, x, x, func() {\n" + uses(a...) + "}))\n}",
		"the same in a loop": "func f(" + some + "q int) int { return q }\nfunc g(" + list(6, "p# int, ") + "q func()) int { q(); return 1 }\nfunc main() {\n" + defined("a") +
			"for {\na0 = f(" + strings.Repeat("x, ", 19) + "g(x, x, x, x, x, x, func() {\na3 = a3 + 1\n" + uses(a...) + "}))\n}\n}",
		"parameters that are captured": "func f(" + some + "q int) int { func() {\n" + uses(append(numbered("p", 19), "q")...) + "}()\nq = 7\nreturn p3 + p5 * q }\n" +
			"func main() { print(f(" + strings.Repeat("x, ", 19) + "1)) }",
		"variables of two functions":              "func main() {\n" + defined("a") + "func() {\n" + defined("b") + "func() {\n" + uses(both...) + "}()\n}()\n}",
		"variables of three functions":            "func main() {\n" + defined("a") + "func() {\n" + defined("b") + "func() {\n" + defined("c") + "func() {\n" + uses(append(both, c...)...) + "}()\n}()\n}()\n}",
		"variables of three functions, backwards": "func main() {\n" + defined("a") + "func() {\n" + defined("b") + "func() {\n" + defined("c") + "go func() {\n" + uses(append(c, both...)...) + "}()\n}()\n}()\n}",
		"sums to the right":                       "func main() {\n" + defined("a") + "func() { a19 = 3 }()\nprint(" + strings.Join(a[:14], " + (") + " + x" + strings.Repeat(")", 13) + ")\n}",
		"loads to the right":                      "func main() {\n" + defined("a") + "print(" + strings.Repeat("x + (", 14) + "x" + strings.Repeat(")", 14) + ")\n}",
		"elements of elements":                    "func main() {\ns = make([]int, 2)\n" + defined("a") + "print(" + strings.Repeat("s[", 14) + "x" + strings.Repeat("]", 14) + ")\n}",
		"calls in calls":                          "func f(p int, q int) int { return p - q }\nfunc main() {\n" + defined("a") + "print(" + strings.Repeat("f(x, ", 9) + "1" + strings.Repeat(")", 9) + ")\n}",
		"additions":                               "func main() {\n" + defined("a") + "print(" + strings.Repeat("at.Add(", 9) + "1" + strings.Repeat(")", 9) + ")\n}",
		"conditions":                              "func main() {\n" + defined("a") + "if " + strings.Repeat("!b && (b || ", 5) + "b" + strings.Repeat(")", 5) + " { print(1) } else { print(2) }\n}",
		"cases":                                   "func main() {\nc = make(chan int, 1)\n" + list(15, "a# := #\n") + "select {\n" + strings.Repeat("case c <- x:\n", 8) + "}\n}",
		"received values":                         "func main() {\nc = make(chan int, 1)\nc <- 5\n" + list(8, "a# := #\n") + "select {\n" + list(7, "case b# := <-c: print(b#)\n") + "}\n}",
		"closures": "func f(" + list(14, "p# func(), ") + "q func()) { p3(); q() }\nfunc main() {\n" + list(20, "a# := #\n") + "f(" + strings.Repeat("func() { "+uses(a...)+" }, ", 14) + "nil)\n" +
			"f(" + strings.Repeat("func() { print(a1 + a5) }, ", 14) + "nil)\n}",
		"blocks":  "func main() {\n" + list(18, "{ a# := x\n") + "print(a0 + a17)\n" + strings.Repeat("}\n", 18) + "}",
		"spawned": "func main() {\n" + defined("a") + list(5, "defer at.CompareAndSwap(x, #)\n") + "on.Do(func() {\n" + uses(a...) + "})\n}",
	} {
		checkModerate(t, name, globals+text)
	}
}

// P11.1: cases of select statements that evaluate function literals with many captured variables. The variables of the function around
// the statement are needed afterwards, so that nearly all registers are in use.
func TestModerateSelects(t *testing.T) {
	const head = moderateHead + "func g(h func()) int { h(); return 3 }; func m(h func()) chan int { h(); return c }\n"
	captured := slices.Concat([]string{"c0", "c1"}, numbered("a", 20), numbered("b", 20))
	literal := "func() {\n" + strings.Join(pairs(captured), "\n") + "}"
	after := "func() {\n" + strings.Join(pairs(numbered("w", 18)), "\n") + "}()\n"
	for _, text := range []string{
		"select { case w <- g(L): }",
		"select { case w <- g(L): default: }",
		"select { default: x = 1; case w <- g(L): x = 2 }",
		"select { case w <- g(L): x = 1; case w <- 2: x = 2; case z := <-w: x = z }",
		"select { case w <- 1: x = 1; case w <- g(L): x = 2 }",
		"select { case w <- 1: case w <- 2: case <-w: case w <- g(L): x = 3; case <-w: }",
		"select { case w <- x: case w <- g(L): x = 2 }",
		"select { case w <- g(L): case w <- g(L): }",
		"select { case <-m(L): }",
		"select { case x = <-m(L): default: }",
		"select { case s[g(nil)] = <-m(L): x = 1; default: }",
		"select { case z := <-m(L): x = z; default: x = 2 }",
		"for x < 2 { select { case <-m(L): default: x = x + 1 } }",
		"for x < 2 { x = x + 1; select { case w <- g(L): case <-w: return } }",
		"if x < 1 { select { case w <- g(L): } } else { select { case <-m(L): } }",
	} {
		text = "c0 := 1; c1 := 2; func() {\n" + list(18, "w# := #\n") + "w := make(chan int, 1)\n" + text + "\n" + after + "}()\n"
		checkModerate(t, text, head+nested(strings.ReplaceAll(text, "L", literal), "a", "b"))
	}
}

// P11.1: many function literals with many captured variables, in different orders and in different ways to the same place.
func TestModerateLiterals(t *testing.T) {
	const head = moderateHead + "type T struct { on once }; var p *T; func g(h func()) int { h(); return 3 }\n"
	functions := "func k(" + list(19, "p# int, ") + "q int) { print(p0); print(p1 * q) }\nfunc f(" + list(14, "p# func(), ") + "q func()) { p3(); q() }\n"
	a, b, c := numbered("a", 20), numbered("b", 20), numbered("c", 20)
	forwards, backwards := "func() {\n"+uses(slices.Concat(a, b, c)...)+"}", "func() {\n"+uses(slices.Concat(c, b, a)...)+"}"
	two := strings.NewReplacer("L", "func() {\n"+uses(slices.Concat(a, b)...)+"}")
	three := strings.NewReplacer("L", forwards, "M", backwards)
	for _, text := range []string{
		"f(" + strings.Repeat("L, ", 14) + "L)",
		strings.Repeat("f("+strings.Repeat("L, ", 14)+"L)\n", 3),
		strings.Repeat("L()\n", 25),
		"for x < 2 { x = x + 1; " + strings.Repeat("L()\n", 22) + " }",
	} {
		checkModerate(t, text, head+functions+nested(two.Replace(text), "a", "b"))
	}
	for _, text := range []string{
		strings.Repeat("L()\n", 12),
		"L(); M(); L(); M()",
		"for x < 2 { x = x + 1; L(); M(); L() }",
		"if x < 2 { L() } else { M() }; L(); M()",
		"if x < 2 { L() } else { M() }",
		"on.Do(L); on.Do(L); on.Do(M); on.Do(L)",
		"defer on.Do(L); go on.Do(L); on.Do(M)",
		"p = new(T); p.on.Do(M); defer p.on.Do(L); p.on.Do(L)",
		"x = g(L) + g(M); defer M(); print(g(L) * 2)",
	} {
		checkModerate(t, text, head+functions+nested(defined("c")+three.Replace(text), "a", "b"))
	}
	for _, text := range []string{
		"d0 := 1; func() {\nU d0 = 1 }()",
		"d0 := 1; d1 := 2; func() {\nU d0 = d1 }()\nfunc() {\nU d1 = d0 }()",
		"for x < 2 { x = x + 1; d0 := 1; d1 := 2; func() {\nU d0 = d1 }()\nfunc() {\nd0 = d1; U }() }",
		"d0 := 1; d1 := 2; d2 := 3; func() {\nU d0 = d1; d2 = 2 }()",
		"d0 := 1; d1 := 2; d2 := 3; func() {\nU d0 = d1; d2 = 2 }(); func() { print(d0 + d1 + d2) }()",
		"if x < 1 { d0 := 1; d1 := 2; d2 := 3; func() {\nU d0 = d1; d2 = 2 }(); func() { print(d0); d1 = d2 }() } else { func() {\nU}() }",
		"d0 := 1; d1 := 2; d2 := 3; a0 = d0; defer func() {\nd2 = 2; U d0 = d1 }()",
		"d0 := 1; d1 := 2; d2 := 3; if x < 1 { go func() {\nd2 = 2; U d0 = d1 }() } else { func() {\nd1 = d0; d2 = 4; U }() }",
	} {
		checkModerate(t, text, head+functions+nested(strings.ReplaceAll(text, "U", uses(slices.Concat(a, b, c)...)), "a", "b", "c"))
	}
}

// pairs assigns variables to each other.
func pairs(names []string) []string {
	var l []string
	for ; len(names) > 1; names = names[2:] {
		l = append(l, names[0]+" = "+names[1])
	}
	if len(names) == 1 {
		l = append(l, names[0]+" = 1")
	}
	return l
}
