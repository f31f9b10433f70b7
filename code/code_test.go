package code

import (
	"fmt"
	"math"
	"slices"
	"strings"
	"testing"

	"interleave/api"
)

// instr reads an instruction, for example "add 1 2 3"; the operands A, B and C that do not appear are 0.
func instr(s string) api.Instr {
	var word string
	var in api.Instr
	fmt.Sscan(s, &word, &in.A, &in.B, &in.C)
	in.Op = operations[word]
	return in
}

// instrs reads instructions, with ";" between them.
func instrs(s string) []api.Instr {
	var l []api.Instr
	for part := range strings.SplitSeq(s, ";") {
		l = append(l, instr(part))
	}
	return l
}

// with returns a program whose main function has some code. There are functions with no, one and two parameters, with the numbers 1 to
// 3, two global variables and two layouts.
func with(regs int, l []api.Instr) api.Program {
	end := instrs("return -1")
	return api.Program{
		Funcs: []api.Func{
			{Name: "main", Regs: regs, Code: l}, {Name: "zero", Code: end},
			{Name: "one", Params: 1, Regs: 1, Code: end}, {Name: "two", Params: 2, Regs: 3, Code: end},
		},
		Globals: []api.Global{{Name: "x", Kind: api.CellInt}, {Name: "y", Kind: api.CellRef}},
		Layouts: [][]int{{api.CellInt, api.CellRef}, {}},
	}
}

// checkCode requires that the programs with these main functions are valid, or that they are not; each row is one function.
func checkCode(t *testing.T, want bool, regs int, functions string) {
	t.Helper()
	for s := range strings.SplitSeq(strings.TrimSpace(functions), "\n") {
		p := with(regs, instrs(s))
		if Valid(p) != want || specifiedValid(p) != want {
			t.Errorf("%d registers, %s: %v, want %v", regs, s, Valid(p), want)
		}
	}
}

// P9.1: the operands of the instructions.
func TestOperands(t *testing.T) {
	checkCode(t, true, 4, `
const 3 9223372036854775807; const 0 -9223372036854775808; return -1
nil 3; move 3 3; add 3 3 3; sub 0 1 2; mul 1 1 1; div 0 0 0; rem 1 2 3; neg 3 3; not 3 3; return 3
eq 3 3 3; ne 3 3 3; lt 3 3 3; le 3 3 3; len 3 3; return 0
jump 0 0 1; jumpz 3 0 0; jumpz 0 0 3; jump 0 0 3
global 3 1; global 0 0; field 3 3 64; field 0 0 0; index 3 3 3; return -1
new 3 1; new 0 0; slice 3 3; chan 3 3; return -1
closure 3 2 0; closure 0 2 3; closure 2 2 1; cap 3 62; cap 0 0; return -1
call -1 1 4; call 3 1 0; call 0 2 3; call -1 3 2; callc 3; return -1
defer 0 1 4; defer 0 2 3; defer 0 3 2; deferc 3; return -1
go 0 1 4; go 0 2 3; go 0 3 2; goc 3; go 0 0 0; return -1
load 3 3; store 3 3; aload 3 3; astore 3 3; aadd 3 3 3; acas 3 3 2; return -1
lock 3; unlock 3; rlock 3; runlock 3; group 3 3; wait 3; once 3 0 7; onceend 3; return -1
send 3 3; recv 3 3 3; recv -1 0 -1; recv 0 1 -1; recv -1 0 1; close 3; print 3; return -1
select 3 0 0; select 3 0 1; select 0 1 0; case 3 1 3; select 0 2 1; case 0 0 -1; case 3 0 3; return -1
select 0 8 1; case 0; case 0; case 0; case 0; case 0; case 0; case 0; case 0; return -1
`)
	checkCode(t, true, 0, "return -1\njump 0 0 0\ncall -1 1 0; go 0 1 0; defer 0 1 0; return -1")
	checkCode(t, true, 1, "cap 0 0; closure 0 2 0; call 0 2 0; call -1 1 1; return 0")
	checkCode(t, true, 64, "closure 0 2 63; const 63; return -1")
}

// P9.1: registers, targets and the other operands with a role that are out of range.
func TestOperandsOutOfRange(t *testing.T) {
	var l []string
	for s := range strings.SplitSeq(strings.TrimSpace(`
const 4;const -1;nil 4;nil -1;move 4 0;move 0 4;move -1 0;move 0 -1
add 4 0 0;add 0 4 0;add 0 0 4;add -1 0 0;add 0 -1 0;add 0 0 -1;len 0 4;index 0 0 4;eq 0 0 -1;neg -1 0;not 0 -1
jump 0 0 2;jump 0 0 -1;jumpz 4 0 0;jumpz -1 0 0;jumpz 0 0 2;jumpz 0 0 -1;once 0 0 2;once 4 0 0;once -1 0 0;once 0 0 -1
jump 0 0 9223372036854775807;jump 0 0 -9223372036854775808
global 4 0;global -1 0;global 0 2;global 0 -1;field 0 0 65;field 0 0 -1;field 4 0 0;field 0 4 0;field 0 -1 0
new 0 2;new 0 -1;new 4 0;slice 0 4;slice -1 0;chan 4 0;chan 0 -1
closure 0 2 4;closure 3 2 1;closure 0 2 -1;closure 0 2 64;closure 0 1 0;closure 0 3 0;closure 0 0 0;closure 0 4 0;closure 0 -1 0;closure 4 2 0;closure -1 2 0
closure 3 2 9223372036854775807;closure 1 2 9223372036854775807;closure 0 2 -9223372036854775808
cap 0 63;cap 0 -1;cap 4 0;cap -1 0
call -2 1 0;call 4 1 0;call 0 4 0;call 0 -1 0;call 0 1 5;call 0 1 -1;call 0 2 4;call 0 3 3;call 0 3 9223372036854775807;call 0 2 -1;call 0 3 -2
defer 0 4 0;defer 0 -1 0;defer 0 1 5;defer 0 2 4;defer 0 3 3;defer 0 3 -1;go 0 4 0;go 0 -1 0;go 0 1 5;go 0 1 -1;go 0 2 4;go 0 3 3;go 0 3 9223372036854775807
callc 4;callc -1;deferc 4;deferc -1;goc 4;goc -1;return 4;return -2
load 4 0;load 0 4;load -1 0;store 4 0;store 0 4;store -1 0;store 0 -1;aload 0 -1;astore 4 0;aadd 0 0 4;aadd 0 -1 0;aadd -1 0 0
acas 0 0 3;acas 0 0 4;acas 0 0 -1;acas 4 0 0;acas 0 4 0;acas -1 0 0;acas 0 0 9223372036854775807
lock 4;lock -1;unlock 4;rlock -1;runlock 4;group 4 0;group 0 4;group 0 -1;wait 4;wait -1;onceend 4;onceend -1
send 4 0;send 0 4;send -1 0;send 0 -1;recv 4 0 0;recv 0 4 0;recv 0 0 4;recv -2 0 0;recv 0 -1 0;recv 0 0 -2;close 4;close -1;print 4;print -1
select 4 0 0;select -1 0 0;select 0 0 2;select 0 0 -1;select 0 -1 0
`), "\n") {
		l = append(l, strings.Split(s, ";")...)
	}
	checkCode(t, false, 4, strings.Join(l, "; return -1\n")+"; return -1")
	checkCode(t, false, 4, `
select 0 1 0; case 4 1 0; return -1
select 0 1 0; case -1 1 0; return -1
select 0 1 0; case 4 0 0; return -1
select 0 1 0; case -1 0 0; return -1
select 0 1 0; case 0 1 4; return -1
select 0 1 0; case 0 1 -1; return -1
select 0 1 0; case 0 0 4; return -1
select 0 1 0; case 0 0 -2; return -1
select 0 1 0; case 0 2 0; return -1
select 0 1 0; case 0 -1 0; return -1
select 0 9 1; case 0; case 0; case 0; case 0; case 0; case 0; case 0; case 0; case 0; return -1
`)
	checkCode(t, false, 0, "cap 0 0; return -1\nconst 0; return -1\nreturn 0\nprint 0; return -1\ncall -1 2 0; return -1\nclosure 0 2 0; return -1")
	checkCode(t, false, 1, "acas 0 0 0; return -1\ncall -1 3 0; return -1\nclosure 0 2 1; return -1")
}

// P9.1: operands without a role are 0, and there are no other operations.
func TestOperandsWithoutRole(t *testing.T) {
	for operands, words := range map[string]string{
		"A":  "defer go",
		"AB": "jump",
		"B":  "jumpz once",
		"BC": "nil callc deferc return goc lock unlock rlock runlock wait onceend close print",
		"C":  "const move neg not len global new slice chan cap load store aload astore group send",
	} {
		for word := range strings.FieldsSeq(words) {
			for _, operand := range operands {
				for _, v := range []int{0, 1, -1, math.MaxInt, math.MinInt} {
					in := instr(word)
					*map[rune]*int{'A': &in.A, 'B': &in.B, 'C': &in.C}[operand] = v
					if got := Valid(with(4, []api.Instr{in, instr("return -1")})); got != (v == 0) {
						t.Errorf("%s: %c %d: %v", word, operand, v, got)
					}
				}
			}
		}
	}
	for _, op := range []int{0, -1, api.OpPrint + 1, math.MaxInt, math.MinInt} {
		if Valid(with(4, []api.Instr{{Op: op}, instr("return -1")})) {
			t.Error(op)
		}
	}
}

// P9.1: the cases of select instructions, and where functions end.
func TestCases(t *testing.T) {
	checkCode(t, false, 4, `
case 0; return -1
const 0; case 0; return -1
select 0 0 0; case 0; return -1
select 0 1 0; return -1
select 0 1 0; case 0; case 0; return -1
select 0 2 0; case 0; return -1
select 0 2 0; case 0; nil 0; case 0; return -1
select 0 2 0; case 0; select 0 0 0; case 0; return -1
select 0 1 0; case 0; nil 0; case 0; return -1
select 0 1 0; nil 0; case 0; return -1
return -1; case 0
select 0 1 0; case 0
select 0 0 0
select 0 1 0; case 0; jump 0 0 1
select 0 2 0; case 0; case 0; jump 0 0 2
select 0 1 0; case 0; jumpz 0 0 1; return -1
once 0 0 2; select 0 1 0; case 0; return -1
`)
	checkCode(t, true, 4, `
select 0 1 0; case 0; select 1 1 1; case 0; select 0 0 0; return -1
select 0 2 0; case 0; case 0; jump 0 0 0
select 0 2 0; case 0; case 0; jump 0 0 3
once 0 0 1; select 0 1 0; case 0; return -1
`)
	for word, op := range operations {
		l := []api.Instr{instr("return -1"), {Op: op}}
		if op == api.OpReturn || op == api.OpJump {
			continue
		}
		if Valid(with(64, l)) {
			t.Error(word)
		}
	}
	checkCode(t, true, 4, "nil 0; return -1\nnil 0; jump 0 0 0\nreturn 0\njump 0 0 0")
}

// P9.1: names, kinds of cells, sizes and numbers of all parts of a program.
func TestPartsOfPrograms(t *testing.T) {
	for _, x := range []struct {
		name   string
		want   bool
		change func(p *api.Program)
	}{
		{"nothing", true, func(p *api.Program) {}},
		{"no globals", true, func(p *api.Program) { p.Globals = nil }},
		{"no layouts", true, func(p *api.Program) { p.Layouts = nil }},
		{"no functions", false, func(p *api.Program) { p.Funcs = nil }},
		{"another main function", true, func(p *api.Program) { p.Main = 1 }},
		{"Main with a parameter", false, func(p *api.Program) { p.Main = 2 }},
		{"Main behind the functions", false, func(p *api.Program) { p.Main = 4 }},
		{"a negative Main", false, func(p *api.Program) { p.Main = -1 }},
		{"the greatest Main", false, func(p *api.Program) { p.Main = math.MaxInt }},
		{"no name", false, func(p *api.Program) { p.Funcs[3].Name = "" }},
		{"any name", true, func(p *api.Program) { p.Funcs[3].Name = " \n\xff" }},
		{"a name of a function twice", false, func(p *api.Program) { p.Funcs[3].Name = "main" }},
		{"a name of a function and a global", true, func(p *api.Program) { p.Funcs[3].Name = "x" }},
		{"no name of a global", false, func(p *api.Program) { p.Globals[0].Name = "" }},
		{"a name of a global twice", false, func(p *api.Program) { p.Globals[0].Name = "y" }},
		{"a long name", true, func(p *api.Program) { p.Globals[0].Name = strings.Repeat("x", 10*api.MaxName) }},
		{"a global of kind 2", false, func(p *api.Program) { p.Globals[1].Kind = 2 }},
		{"a global of kind -1", false, func(p *api.Program) { p.Globals[0].Kind = -1 }},
		{"a cell of kind 2", false, func(p *api.Program) { p.Layouts[0][1] = 2 }},
		{"a cell of kind -1", false, func(p *api.Program) { p.Layouts[0][0] = -1 }},
		{"equal layouts", true, func(p *api.Program) { p.Layouts = [][]int{{1}, {1}} }},
		{"most cells", true, func(p *api.Program) { p.Layouts[1] = make([]int, 64) }},
		{"too many cells", false, func(p *api.Program) { p.Layouts[1] = make([]int, 65) }},
		{"most layouts", true, func(p *api.Program) { p.Layouts = make([][]int, 32) }},
		{"too many layouts", false, func(p *api.Program) { p.Layouts = make([][]int, 33) }},
		{"no code", false, func(p *api.Program) { p.Funcs[1].Code = nil }},
		{"most code", true, func(p *api.Program) { p.Funcs[1].Code = slices.Repeat(instrs("return -1"), 1000) }},
		{"too much code", false, func(p *api.Program) { p.Funcs[1].Code = slices.Repeat(instrs("return -1"), 1001) }},
		{"a negative At", false, func(p *api.Program) { p.Funcs[1].Code[0].At = -1 }},
		{"the greatest At", true, func(p *api.Program) { p.Funcs[1].Code[0].At = math.MaxInt }},
		{"negative Params", false, func(p *api.Program) { p.Funcs[1].Params = -1 }},
		{"as many Params as Regs", true, func(p *api.Program) { p.Funcs[3].Regs = 2 }},
		{"more Params than Regs", false, func(p *api.Program) { p.Funcs[3].Regs = 1 }},
		{"negative Regs", false, func(p *api.Program) { p.Funcs[1].Regs = -1 }},
		{"negative Regs and Params", false, func(p *api.Program) { p.Funcs[1].Regs, p.Funcs[1].Params = -1, -1 }},
		{"most Regs", true, func(p *api.Program) { p.Funcs[1].Regs = 64 }},
		{"most Params", true, func(p *api.Program) { p.Funcs[3].Regs, p.Funcs[3].Params = 64, 64 }},
		{"too many Regs", false, func(p *api.Program) { p.Funcs[1].Regs = 65 }},
		{"operands of another function", false, func(p *api.Program) { p.Funcs[3].Code = instrs("return 3") }},
		{"code of another function", false, func(p *api.Program) { p.Funcs[3].Code = instrs("return -1; nil 0") }},
		{"cases of another function", false, func(p *api.Program) { p.Funcs[3].Code = instrs("case 0; return -1") }},
	} {
		p := copied(with(4, instrs("return -1")))
		x.change(&p)
		if Valid(p) != x.want || specifiedValid(p) != x.want {
			t.Errorf("%s: %v", x.name, Valid(p))
		}
	}
}

// P9.1: the greatest numbers of functions and globals.
func TestMostNames(t *testing.T) {
	for count := 62; count <= 66; count++ {
		p, q := with(4, instrs("return -1")), with(4, instrs("return -1"))
		for k := len(p.Funcs); k < count; k++ {
			p.Funcs = append(p.Funcs, api.Func{Name: fmt.Sprint(k), Code: instrs("return -1")})
		}
		for k := len(q.Globals); k < count; k++ {
			q.Globals = append(q.Globals, api.Global{Name: fmt.Sprint(k)})
		}
		if want := count <= 64; Valid(p) != want || Valid(q) != want {
			t.Error(count, Valid(p), Valid(q))
		}
	}
}

// P9.1: visible instructions and accesses, by their words.
func TestVisibleAndAccess(t *testing.T) {
	visible := strings.Fields("go goc load store aload astore aadd acas lock unlock rlock runlock group wait once onceend send recv close select print")
	for word, op := range operations {
		if Visible(op) != slices.Contains(visible, word) || Access(op) != (word == "load" || word == "store") {
			t.Error(word, Visible(op), Access(op))
		}
	}
	for _, op := range []int{0, -1, api.OpPrint + 1, 33 + 1<<32, math.MaxInt, math.MinInt} {
		if Visible(op) || Access(op) {
			t.Error(op)
		}
	}
}
