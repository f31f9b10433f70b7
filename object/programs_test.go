package object

import (
	"math"
	"math/rand/v2"
	"slices"
	"strings"

	"interleave/api"
	"interleave/code"
)

// extremes are numbers at which the number of groups changes, and the ends of the range.
var extremes = []int{
	math.MinInt, math.MinInt + 1, -1 << 62, -1<<62 - 1, -1 << 48, -8193, -8192, -65, -64, -63, -2, -1, 0, 1, 2, 62, 63, 64, 65, 127, 128,
	8191, 8192, 1<<20 - 1, 1 << 20, 1<<55 - 1, 1 << 55, 1<<62 - 1, 1 << 62, math.MaxInt - 1, math.MaxInt,
}

// names are names with all kinds of bytes, and with lengths at which the number of groups changes.
var names = []string{
	"main", "x", "ilv1", "a b", "\n", "\x00", "\xff\x80", "é", "-1", "\x02\x02",
	strings.Repeat("n", 63), strings.Repeat("n", 64), strings.Repeat("\xff", 127), strings.Repeat("\x80", 128), strings.Repeat("l", 8192),
}

// author writes valid programs.
type author struct{ *rand.Rand }

func newAuthor(seed uint64) author { return author{rand.New(rand.NewPCG(seed, 10))} }

// some returns distinct names, most of them short.
func (a author) some(count int) []string {
	l := slices.Clone(names)
	if a.IntN(8) > 0 {
		l = l[:10]
	}
	a.Shuffle(len(l), func(i, j int) { l[i], l[j] = l[j], l[i] })
	return l[:count]
}

func (a author) extreme() int { return extremes[a.IntN(len(extremes))] }

// program returns a valid program: instructions replace those of functions that only return, if they fit.
func (a author) program() api.Program {
	var p api.Program
	for _, name := range a.some(a.IntN(4)) {
		p.Globals = append(p.Globals, api.Global{Name: name, Kind: a.IntN(2)})
	}
	for range a.IntN(4) {
		l := make([]int, a.IntN(4))
		for i := range l {
			l[i] = a.IntN(2)
		}
		p.Layouts = append(p.Layouts, l)
	}
	for _, name := range a.some(a.IntN(4) + 1) {
		f := api.Func{Name: name, Regs: a.IntN(7)}
		f.Params = min(f.Regs, a.IntN(3))
		for range a.IntN(10) + 1 {
			f.Code = append(f.Code, api.Instr{Op: api.OpReturn, A: -1, At: max(a.extreme(), 0)})
		}
		p.Funcs = append(p.Funcs, f)
	}
	p.Main = a.IntN(len(p.Funcs))
	p.Funcs[p.Main].Params = 0
	for _, f := range p.Funcs {
		for range 3 * len(f.Code) {
			a.replaceSome(p, f)
		}
	}
	return p
}

// replaceSome replaces one instruction of a function, or a few by an OpSelect and its cases, if the program stays valid.
func (a author) replaceSome(p api.Program, f api.Func) {
	before := slices.Clone(f.Code)
	pc := a.IntN(len(f.Code))
	in := a.instr(f)
	if in.Op == api.OpSelect {
		in.B = a.IntN(min(9, len(f.Code)-pc))
		for i := pc + 1; i <= pc+in.B; i++ {
			f.Code[i] = a.instr(f)
			f.Code[i].Op, f.Code[i].B = api.OpCase, a.IntN(2)
		}
	}
	f.Code[pc] = in
	if !code.Valid(p) {
		copy(f.Code, before)
	}
}

func (a author) instr(f api.Func) api.Instr {
	small := func() int { return []int{0, a.IntN(len(f.Code)+f.Regs+2) - 1}[a.IntN(2)] }
	in := api.Instr{Op: a.IntN(api.OpPrint) + 1, A: small(), B: small(), C: small(), At: max(a.extreme(), 0)}
	if in.Op == api.OpConst {
		in.B = a.extreme()
	}
	return in
}

// programs returns valid programs.
func programs(count int, seed uint64) []api.Program {
	a := newAuthor(seed)
	var l []api.Program
	for range count {
		l = append(l, a.program())
	}
	return l
}

// anyProgram returns a program with any numbers.
func (a author) anyProgram() api.Program {
	n := func() int { return []int{a.IntN(6) - 1, a.extreme()}[a.IntN(2)] }
	name := func() string { return append(names, "", "x")[a.IntN(len(names)+2)] }
	p := api.Program{Main: n()}
	for range a.IntN(3) {
		p.Globals = append(p.Globals, api.Global{Name: name(), Kind: n()})
	}
	for range a.IntN(3) {
		p.Layouts = append(p.Layouts, slices.Repeat([]int{n()}, a.IntN(3)))
	}
	for range a.IntN(3) {
		f := api.Func{Name: name(), Params: n(), Regs: n()}
		for range a.IntN(4) {
			f.Code = append(f.Code, api.Instr{Op: n(), A: n(), B: n(), C: n(), At: n()})
		}
		p.Funcs = append(p.Funcs, f)
	}
	return p
}

// with returns a program whose only function is main with 2 registers.
func with(l ...api.Instr) api.Program {
	return api.Program{Funcs: []api.Func{{Name: "main", Regs: 2, Code: l}}}
}

// leave is the instruction that returns without a result.
func leave(at int) api.Instr { return api.Instr{Op: api.OpReturn, A: -1, At: at} }

// full returns a program with these numbers of functions, instructions, global variables, layouts and cells of a layout.
func full(funcs, instrs, globals, layouts, cells int) api.Program {
	var p api.Program
	for i := range globals {
		p.Globals = append(p.Globals, api.Global{Name: "g" + strings.Repeat("g", i), Kind: i % 2})
	}
	for i := range layouts {
		p.Layouts = append(p.Layouts, slices.Repeat([]int{i % 2}, cells))
	}
	for i := range funcs {
		f := api.Func{Name: "f" + strings.Repeat("f", i), Regs: i}
		for at := range instrs {
			f.Code = append(f.Code, leave(at*at))
		}
		p.Funcs = append(p.Funcs, f)
	}
	return p
}
