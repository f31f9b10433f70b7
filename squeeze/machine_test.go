package squeeze

import (
	"slices"

	"interleave/api"
	"interleave/code"
)

// closureValue is the only value of register 0 from which captured values can be made.
const closureValue = 4711

// runner executes the code of a function. What other parts of a machine would answer follows from the trace so far.
type runner struct {
	f       api.Func
	params  []int
	regs    []int
	pc      int
	trace   [][]int // what instructions do that is not local, and calls
	answers int
	ended   bool
}

// traceOf returns the trace of at most some instructions, and whether the function has returned. The values of registers that are not
// set follow from rest, and what instructions get follows from answers.
func traceOf(f api.Func, params []int, rest, answers, most int) ([][]int, bool) {
	x := &runner{f: f, params: params, regs: make([]int, f.Regs), answers: answers}
	for i := range x.regs {
		x.regs[i] = rest * (i + 3)
		if i < f.Params {
			x.regs[i] = closureValue + i
		}
	}
	for range most {
		if x.ended {
			break
		}
		x.step(f.Code[x.pc])
	}
	return x.trace, x.ended
}

// note adds to the trace, and returns an answer.
func (x *runner) note(l ...int) int {
	x.trace = append(x.trace, slices.Clone(l))
	return (len(x.trace) + x.answers) * 7 % 5
}

func (x *runner) step(in api.Instr) {
	x.pc++
	switch in.Op {
	case api.OpJump:
		x.pc = in.C
	case api.OpJumpZ:
		if x.regs[in.A] == 0 {
			x.pc = in.C
		}
	case api.OpOnce:
		if x.note(in.Op, x.regs[in.A]) < 2 {
			x.pc = in.C
		}
	case api.OpReturn:
		x.ended = true
		if in.A >= 0 {
			x.note(in.Op, x.regs[in.A])
		}
	case api.OpSelect:
		x.choose(in)
	case api.OpRecv:
		answer := x.note(in.Op, x.regs[in.B])
		x.set(in.A, answer)
		x.set(in.C, answer+1)
	case api.OpCall, api.OpDefer, api.OpGo:
		answer := x.note(append([]int{in.Op, in.B}, x.regs[in.C:in.C+x.params[in.B]]...)...)
		if in.Op == api.OpCall {
			x.set(in.A, answer)
		}
	case api.OpClosure:
		x.regs[in.A] = 900 + x.note(append([]int{in.Op, in.B}, x.regs[in.A+1:in.A+1+in.C]...)...)
	case api.OpACas:
		x.regs[in.A] = x.note(in.Op, x.regs[in.B], x.regs[in.C], x.regs[in.C+1])
	default:
		x.compute(in)
	}
}

func (x *runner) set(register, value int) {
	if register >= 0 {
		x.regs[register] = value
	}
}

func (x *runner) choose(in api.Instr) {
	cases := x.f.Code[x.pc : x.pc+in.B]
	x.pc += in.B
	words := []int{in.Op, in.B, in.C}
	for _, c := range cases {
		words = append(words, x.regs[c.A])
		if c.B == 1 {
			words = append(words, x.regs[c.C])
		}
	}
	answer := x.note(words...)
	number := answer % (in.B + 1)
	x.regs[in.A] = number
	if number < in.B && cases[number].B == 0 {
		x.set(cases[number].C, answer+20)
	}
}

// compute executes the instructions with one result, and those that only read registers.
func (x *runner) compute(in api.Instr) {
	at := func(register int) int { return x.regs[min(max(register, 0), len(x.regs)-1)] }
	switch b, c := at(in.B), at(in.C); in.Op {
	case api.OpConst:
		x.regs[in.A] = in.B
	case api.OpNil:
		x.regs[in.A] = -1
	case api.OpGlobal:
		x.regs[in.A] = 1000 + in.B
	case api.OpCap:
		x.regs[in.A] = x.regs[0] - closureValue + 2000 + in.B
	case api.OpMove:
		x.regs[in.A] = b
	case api.OpNot, api.OpNeg:
		x.regs[in.A] = in.Op - 9 - b
	case api.OpEq:
		x.regs[in.A] = 0
		if b == c {
			x.regs[in.A] = 1
		}
	case api.OpAdd, api.OpSub, api.OpMul, api.OpDiv, api.OpRem, api.OpNe, api.OpLt, api.OpLe:
		x.regs[in.A] = b*in.Op - c
	case api.OpAAdd, api.OpIndex:
		x.regs[in.A] = x.note(in.Op, b, c)
	case api.OpLen, api.OpSlice, api.OpChan, api.OpLoad, api.OpALoad:
		x.regs[in.A] = x.note(in.Op, b)
	case api.OpField:
		x.regs[in.A] = x.note(in.Op, b, in.C)
	case api.OpNew:
		x.regs[in.A] = 800 + x.note(in.Op, in.B)
	case api.OpStore, api.OpAStore, api.OpGroup, api.OpSend:
		x.note(in.Op, x.regs[in.A], b)
	default:
		x.note(in.Op, x.regs[in.A])
	}
}

// program returns a program with a function, and with functions of some numbers of parameters.
func program(f api.Func, params []int) api.Program {
	p := api.Program{Globals: []api.Global{{Name: "a"}, {Name: "b"}, {Name: "c"}}, Layouts: [][]int{{0}, {1}}}
	f.Name = "f"
	for i, n := range params {
		end := []api.Instr{{Op: api.OpReturn, A: -1}}
		p.Funcs = append(p.Funcs, api.Func{Name: string(rune('k' + i)), Params: n, Regs: n, Code: end})
		if n == 0 {
			p.Main = i
		}
	}
	p.Funcs = append(p.Funcs, f)
	return p
}

func isValid(f api.Func, params []int) bool { return code.Valid(program(f, params)) }
