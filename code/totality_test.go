package code

import (
	"math"
	"slices"
	"testing"

	"interleave/api"
)

// call calls all functions for a program and some places in it.
func call(p, other api.Program, places []int) {
	Valid(p)
	Equal(p, other)
	Text(p)
	for _, fn := range places {
		for _, pc := range places {
			Uses(p, fn, pc)
			Defs(p, fn, pc)
			if fn >= 0 && fn < len(p.Funcs) {
				Next(p.Funcs[fn], pc)
			}
		}
	}
}

// anyProgram returns a program with any numbers.
func (a author) anyProgram() api.Program {
	number := func() int {
		if a.IntN(2) == 0 {
			return a.IntN(10) - 1
		}
		return extremes[a.IntN(len(extremes))]
	}
	p := api.Program{Main: number()}
	for range a.IntN(4) {
		p.Globals = append(p.Globals, api.Global{Name: names[a.IntN(len(names))], Kind: number()})
	}
	for range a.IntN(4) {
		p.Layouts = append(p.Layouts, slices.Repeat([]int{number()}, a.IntN(4)))
	}
	for range a.IntN(4) {
		f := api.Func{Name: names[a.IntN(len(names))], Params: number(), Regs: number()}
		for range a.IntN(6) {
			op := a.IntN(api.OpPrint + 1)
			if a.IntN(10) == 0 {
				op = number()
			}
			f.Code = append(f.Code, api.Instr{Op: op, A: number(), B: number(), C: number(), At: number()})
		}
		p.Funcs = append(p.Funcs, f)
	}
	return p
}

// P1, P9.1: no call panics, and every call ends, for programs with any numbers.
func TestAnyPrograms(t *testing.T) {
	a := newAuthor(10)
	places := []int{math.MinInt, -1, 0, 1, 2, 3, 4, 5, 6, math.MaxInt}
	var before api.Program
	for range 20000 {
		p := a.anyProgram()
		if Valid(p) != specifiedValid(p) || !Equal(p, copied(p)) || Equal(p, before) != identical(p, before) {
			t.Fatal(p)
		}
		call(p, before, places)
		before = p
	}
}

// P1, P9.1: valid programs with a few changes.
func TestChangesOfPrograms(t *testing.T) {
	a := newAuthor(11)
	places := []int{-1, 0, 1, 2, 3, 4, 5, 6, 7, 8, 9, 10}
	for _, p := range programs(2000, 12) {
		q := p
		for range 4 {
			q = a.change(q)
			call(q, p, places)
		}
	}
}

// P1, P9.1: sizes far beyond the limits, and numbers of registers for which there is no memory.
func TestLargePrograms(t *testing.T) {
	const many = 1 << 16
	p := with(math.MaxInt, instrs("call 0 3 0; defer 0 3 1; go 0 3 9223372036854775806; closure 0 2 9223372036854775807; acas 0 0 9223372036854775807; return -1"))
	p.Funcs[3].Params = math.MaxInt
	p.Funcs[2].Regs = math.MaxInt
	call(p, p, []int{0, 1, 2, 3, 4, 5})
	for _, word := range []string{"select 0 9223372036854775807 0", "select 0 65536 0", "case 0", "jump 0 0 0", "unknown"} {
		for _, later := range []string{"case 0 1 0", "select 0 1 0", "return -1"} {
			p := with(4, append(instrs(word), slices.Repeat(instrs(later), many)...))
			call(p, copied(p), []int{0, 1, many - 1, many, many + 1})
			if Valid(p) {
				t.Error(word, later)
			}
		}
	}
	q := with(4, instrs("return -1"))
	q.Globals = slices.Repeat(q.Globals, many)
	q.Layouts = append(slices.Repeat(q.Layouts, many), make([]int, many))
	q.Funcs = slices.Repeat(q.Funcs, many)
	call(q, copied(q), []int{0, many})
	if Valid(q) {
		t.Error("large lists")
	}
}

// Rule 5 of the document: arguments are not modified, with their spare capacity, and results share no memory.
func TestMemory(t *testing.T) {
	for _, p := range programs(300, 13) {
		for i, f := range p.Funcs {
			spare := append(slices.Clone(f.Code), instrs("case 1 1 1; print 1")...)
			p.Funcs[i].Code = spare[:len(f.Code)]
		}
		before, text := written(p), Text(p)
		for fn, f := range p.Funcs {
			for pc := range f.Code {
				for _, results := range []func() []int{
					func() []int { return Uses(p, fn, pc) }, func() []int { return Defs(p, fn, pc) }, func() []int { return Next(f, pc) },
				} {
					l := results()
					want := slices.Clone(l)
					for i := range l {
						l[i] = -7
					}
					if !slices.Equal(results(), want) {
						t.Fatal(results(), want)
					}
				}
			}
		}
		call(p, copied(p), []int{0, 1, 2})
		for _, f := range p.Funcs {
			if spare := f.Code[:len(f.Code)+2]; !slices.Equal(spare[len(f.Code):], instrs("case 1 1 1; print 1")) {
				t.Fatal("spare capacity")
			}
		}
		if written(p) != before || Text(p) != text {
			t.Fatal(text)
		}
	}
}
