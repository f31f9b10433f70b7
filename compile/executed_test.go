package compile

import (
	"slices"
	"strings"
	"testing"

	"interleave/api"
	"interleave/code"
	"interleave/parse"
	"interleave/syntax"
)

// large is a literal that captures 60 variables with the names a, b and c, and others with the name d.
func large(count int) string {
	l := pairs(slices.Concat(numbered("a", 20), numbered("b", 20), numbered("c", 20), numbered("d", count-60)))
	return "func() {\n" + strings.Join(l[:25], "\n") + "\nfunc() {\n" + strings.Join(l[25:], "\n") + "\n}()\n}"
}

const unreachableHead = moderateHead + "func k(f func()) int { f(); return 3 }\nfunc q(i int, f func()) { f(); print(i) }\n"

// P11.1: moderate files are accepted, and their programs are valid, if a literal captures more variables than a closure can have, but
// no way leads to it.
func TestUnreachableLiterals(t *testing.T) {
	for _, s := range []string{
		"return\nL()",
		"return\nL()\nL()",
		"return\ngo L()",
		"return\ndefer L()",
		"return\nd0 = 1\nx = k(L)",
		"return\non.Do(L)",
		"return\ngo on.Do(L)",
		"return\nq(x, L)",
		"return\ndefer q(1, L)",
		"return\nfunc() { L() }()",
		"return\nif x < 1 { L() } else { return }",
		"return\nselect { case c <- k(L): default: }",
		"defer func() { print(d0) }()\nreturn\nL()",
		"print(1)\nfor { }\nL()",
		"for { return\nL() }",
		"for x < 3 { x = x + 1\nif x == 2 { return\nL() } }",
		"for x < 3 { x = x + 1\nfor { return }\nL() }\nprint(x)",
		"{ { return } }\nL()",
		"if b { return } else { return }\nL()",
		"if b { return } else if x < 1 { for { } } else { return }\nL()",
		"select { case <-c: return\ndefault: return }\nL()",
		"select { case <-c: print(1)\ndefault: print(2)\nreturn\nL() }",
		"select { case <-c: return }\nL()",
		"select { }\nL()",
		"if x < 1 { select { } } else { return }\nL()",
	} {
		for _, count := range []int{62, 63, 64, 65, 79, 80} {
			definitions := list(count-60, "d# := #\n")
			checkModerate(t, s, unreachableHead+nested(definitions+strings.ReplaceAll(s, "L", large(count)), "a", "b", "c"))
		}
	}
}

// P11.1: a literal to which a way leads is not accepted if it captures more variables than a closure can have.
func TestReachableLiterals(t *testing.T) {
	for _, s := range []string{
		"L()",
		"go L()",
		"if x < 1 { return }\nL()",
		"if x < 1 { L() } else { return }",
		"for x < 1 { return }\nL()",
		"for x < 1 { L() }",
		"for { L()\nreturn }",
		"{ }\nL()",
		"select { default: }\nL()",
		"select { case <-c: }\nL()",
		"select { case <-c: return\ncase c <- 1: }\nL()",
		"select { case <-c: L()\ndefault: return }",
		"func() { return }()\nL()",
	} {
		for _, count := range []int{62, 64, 65, 80} {
			f := parsed(t, unreachableHead+nested(list(count-60, "d# := #\n")+strings.ReplaceAll(s, "L", large(count)), "a", "b", "c"))
			p, e := Compile(f)
			if count > 63 && (e != api.ErrLimit || !code.Equal(p, api.Program{})) || count < 63 && (e != api.OK || !code.Valid(p)) {
				t.Errorf("%s with %d variables: %v", s, count, e)
			}
		}
	}
}

// P11.1: functions that are never called may be too large; those that may be called are not accepted then.
func TestUnusedFunctions(t *testing.T) {
	const head = "var x int; var b bool; var c chan int; var on once; type T struct { on once }; var p *T; var h func()\n"
	for _, s := range []string{
		"func main() { }",
		"func main() { return; f() }",
		"func main() { return; go f() }",
		"func main() { return; defer f() }",
		"func main() { return; h = f }",
		"func main() { return; on.Do(f) }",
		"func main() { return; go p.on.Do(f) }",
		"func main() { for { }; f() }",
		"func main() { func() { return; f() }() }",
		"func main() { return; func() { f() }() }",
		"func main() { return; g() }; func g() { f() }",
		"func main() { return; h = g }; func g() { f() }",
		"func main() { }; func g() { g(); f() }",
		"func main() { }; func g() { h = f }",
	} {
		text := head + "func f() { " + strings.Repeat("print(99); ", 500) + "}\n" + s
		p := source(t, text)
		if f := p.Funcs[0]; f.Name != "f" || f.Regs != 0 || len(f.Code) != 1 || f.Code[0] != (api.Instr{Op: api.OpReturn, A: -1}) {
			t.Errorf("%s: %v", s, f)
		}
		small := source(t, strings.Replace(text, strings.Repeat("print(99); ", 300), "", 1))
		if f := small.Funcs[0]; len(f.Code) != 401 {
			t.Errorf("%s: %v", s, f)
		}
	}
	for _, s := range []string{
		"func main() { f() }",
		"func main() { go f() }",
		"func main() { defer f() }",
		"func main() { h = f }",
		"func main() { on.Do(f) }",
		"func main() { go p.on.Do(f) }",
		"func main() { if b { f() } }",
		"func main() { for b { return }; f() }",
		"func main() { for x < 3 { f(); return } }",
		"func main() { select { case <-c: f(); default: } }",
		"func main() { func() { f() }() }",
		"func main() { go func() { defer func() { f() }() }() }",
		"func main() { g() }; func g() { f() }",
		"func main() { h = g }; func g() { go f() }",
		"func g() { f() }; func main() { defer g() }",
		"func g() { main() }; func main() { k(); g() }; func k() { g(); h = f }",
	} {
		p, at, e := Source(head + "func f() { " + strings.Repeat("print(x); ", 500) + "}\n" + s)
		if e != api.ErrLimit || at != 0 || !code.Equal(p, api.Program{}) {
			t.Errorf("%s: %d %v", s, at, e)
		}
	}
}

// P11.1: the parameters of a function need registers, also if it is never called.
func TestUnusedParameters(t *testing.T) {
	const text = "func f(@z int) int { for z < 1 { g(func() { z = 1 }, func() { z = 2 }) }; return 2 }; func g(f func(), h func()) { }; func main() { }"
	checkLimit(t, text, "a# int, ", 63)
	if f := source(t, in(text, 63, "a# int, ")).Funcs[0]; f.Params != 64 || f.Regs != 64 {
		t.Error(f)
	}
}

// P11.2: what is found not to be executed has no influence on runs.
func TestExecuted(t *testing.T) {
	w := &author{chooser: &chooser{state: 59}, literals: true}
	seen := counts{}
	for _, s := range texts(80, w) {
		f := annotated(t, parsed(t, s))
		p := accepted(t, f)
		isCalled := called(p)
		for i, fn := range p.Funcs {
			if smaller := reduced(fn); !slices.Equal(smaller.Code, fn.Code) {
				seen["reduced"]++
				p.Funcs[i] = smaller
			}
			if !isCalled[i] {
				seen["unused"]++
				p.Funcs[i] = unused(fn)
			}
		}
		a, b := compiled(p), walked(newTree(f))
		if d := run(a, b, w.chooser, seen, memoryDifference); d != "" || !code.Valid(p) {
			t.Fatalf("%s\n%s\n%s", s, d, code.Text(p))
		}
		b.stop()
	}
	checkSeen(t, seen, 300, "end", "reduced", "unused")
	checkSeen(t, seen, 20, "closure", "go", "goc", "select", "once", "print")
}

// P11.1 and P11.2: random files in which much is never executed are accepted only with valid programs that do what they should.
func TestStoppedFiles(t *testing.T) {
	w := &crowd{chooser: &chooser{state: 61}, stops: true}
	seen := counts{}
	for range 1200 {
		f, _, e := parse.Parse(w.program())
		if e != api.OK {
			continue
		}
		f = annotated(t, f)
		p, e := Compile(f)
		if e != api.OK {
			continue
		}
		for _, fn := range newTables(&f).functions {
			if len(fn.captures) > api.MaxCells-1 {
				seen["large"]++
			}
		}
		a, b := compiled(p), walked(newTree(f))
		if d := run(a, b, w.chooser, seen, memoryDifference, budgetDifference); d != "" || !code.Valid(p) {
			t.Fatalf("%s\n%s", syntax.Print(f), d)
		}
		b.stop()
	}
	checkSeen(t, seen, 50, "large", "end")
	checkSeen(t, seen, 20, "closure", "go", "goc", "select", "once", "print")
}
