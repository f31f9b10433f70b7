package code

import (
	"math/rand/v2"
	"slices"
	"strconv"

	"interleave/api"
)

// author writes valid programs.
type author struct{ *rand.Rand }

func newAuthor(seed uint64) author { return author{rand.New(rand.NewPCG(seed, 9))} }

// names are names without blanks and line feeds; some of them look like other parts of the text of a program.
var names = []string{"main", "x", "y", "f", "f.1", "global", "layout", "func", "0", "-1", "\t0", "\t", "\r", "\xff", "é", "\x00", "return"}

// some returns distinct names.
func (a author) some(count int) []string {
	l := slices.Clone(names)
	a.Shuffle(len(l), func(i, j int) { l[i], l[j] = l[j], l[i] })
	return l[:count]
}

// program returns a valid program.
func (a author) program() api.Program {
	var p api.Program
	for _, name := range a.some(a.IntN(4)) {
		p.Globals = append(p.Globals, api.Global{Name: name, Kind: a.IntN(2)})
	}
	for range a.IntN(4) {
		l := make([]int, a.IntN(4))
		for i := range l {
			l[i] = a.IntN(2)
		}
		p.Layouts = append(p.Layouts, l)
	}
	for _, name := range a.some(a.IntN(4) + 1) {
		regs := []int{0, 1, 2, 3, 4, 5, 6, api.MaxRegs}[a.IntN(8)]
		p.Funcs = append(p.Funcs, api.Func{Name: name, Params: min(regs, a.IntN(4)), Regs: regs, Code: a.operations(regs)})
	}
	p.Main = a.IntN(len(p.Funcs))
	p.Funcs[p.Main].Params = 0
	for _, f := range p.Funcs {
		for pc := range f.Code {
			a.complete(p, f, pc)
		}
	}
	return p
}

// operations returns instructions without operands, apart from the number of cases.
func (a author) operations(regs int) []api.Instr {
	var l []api.Instr
	for range a.IntN(12) {
		op := a.IntN(api.OpPrint) + 1
		count := a.IntN(9)
		switch {
		case op == api.OpCase || op == api.OpSelect && regs == 0:
		case op == api.OpSelect:
			l = append(l, api.Instr{Op: op, B: count})
			l = append(l, slices.Repeat([]api.Instr{{Op: api.OpCase}}, count)...)
		default:
			l = append(l, api.Instr{Op: op})
		}
	}
	return append(l, api.Instr{Op: []int{api.OpReturn, api.OpJump}[a.IntN(2)]})
}

// complete gives an instruction operands that fit. If none are found, it becomes a return.
func (a author) complete(p api.Program, f api.Func, pc int) {
	at := a.IntN(100)
	for range 200 {
		in := f.Code[pc]
		in.A, in.C = a.IntN(f.Regs+2)-1, a.IntN(f.Regs+len(f.Code)+2)-1
		if in.Op != api.OpSelect {
			in.B = a.IntN(f.Regs+5) - 1
		}
		in = a.withoutSome(in)
		if meaningOf(p, f, in).fits {
			in.At = at
			f.Code[pc] = in
			return
		}
	}
	f.Code[pc] = api.Instr{Op: api.OpReturn, A: -1, At: at}
}

// withoutSome makes some operands 0, as they have to be if they are not listed.
func (a author) withoutSome(in api.Instr) api.Instr {
	if in.Op == api.OpConst && a.IntN(2) == 0 {
		in.B = extremes[a.IntN(len(extremes))]
	}
	if a.IntN(2) == 0 {
		in.C = 0
	}
	if in.Op != api.OpSelect && a.IntN(3) == 0 {
		in.B = 0
	}
	if a.IntN(4) == 0 {
		in.A = 0
	}
	return in
}

// programs returns valid programs.
func programs(count int, seed uint64) []api.Program {
	a := newAuthor(seed)
	var l []api.Program
	for range count {
		l = append(l, a.program())
	}
	return l
}

// copied returns a program that shares no memory with p.
func copied(p api.Program) api.Program {
	p.Funcs, p.Globals, p.Layouts = slices.Clone(p.Funcs), slices.Clone(p.Globals), slices.Clone(p.Layouts)
	for i := range p.Funcs {
		p.Funcs[i].Code = slices.Clone(p.Funcs[i].Code)
	}
	for i := range p.Layouts {
		p.Layouts[i] = slices.Clone(p.Layouts[i])
	}
	return p
}

// change returns a program with one change.
func (a author) change(p api.Program) api.Program {
	p = copied(p)
	number := extremes[a.IntN(len(extremes))]
	if a.IntN(2) == 0 {
		number = a.IntN(12) - 2
	}
	switch kind := a.IntN(12); {
	case kind == 0:
		p.Main = number
	case kind == 1 && len(p.Globals) > 0:
		a.changeGlobals(&p, number)
	case kind == 2 && len(p.Layouts) > 0:
		i := a.IntN(len(p.Layouts))
		p.Layouts[i] = append(p.Layouts[i], number)
		if a.IntN(3) == 0 {
			p.Layouts = slices.Delete(p.Layouts, i, i+1)
		}
	case len(p.Funcs) == 0:
	case kind == 3:
		i := a.IntN(len(p.Funcs))
		p.Funcs = slices.Delete(p.Funcs, i, i+1)
	default:
		a.changeFunc(&p.Funcs[a.IntN(len(p.Funcs))], number)
	}
	return p
}

func (a author) changeGlobals(p *api.Program, number int) {
	i := a.IntN(len(p.Globals))
	switch a.IntN(4) {
	case 0:
		p.Globals[i].Kind = number
	case 1:
		p.Globals[i].Name = p.Globals[0].Name
	case 2:
		p.Globals[i].Name = ""
	default:
		p.Globals = slices.Delete(p.Globals, i, i+1)
	}
}

func (a author) changeFunc(f *api.Func, number int) {
	i := a.IntN(len(f.Code) + 1)
	switch kind := a.IntN(14); {
	case kind == 0:
		f.Name = []string{"", "main", "f", strconv.Itoa(number)}[a.IntN(4)]
	case kind == 1:
		f.Params = number
	case kind == 2:
		f.Regs = number
	case kind == 3:
		f.Code = slices.Insert(f.Code, i, api.Instr{Op: a.IntN(api.OpPrint+3) - 1})
	case i == len(f.Code):
	case kind == 4:
		f.Code = slices.Delete(f.Code, i, i+1)
	case kind == 5:
		f.Code = slices.Insert(f.Code, i, f.Code[i])
	case kind == 6:
		f.Code[i].Op = a.IntN(api.OpPrint+3) - 1
	case kind == 7:
		f.Code[i].At = number
	case kind < 10:
		f.Code[i].A = number
	case kind < 12:
		f.Code[i].B = number
	default:
		f.Code[i].C = number
	}
}
