package compile

import (
	"slices"

	"interleave/api"
	"interleave/code"
)

// executed finds the instructions of a function to which a way leads from its first one.
func executed(f api.Func) []bool {
	found := make([]bool, len(f.Code))
	for waiting := []int{0}; len(waiting) > 0; {
		last := len(waiting) - 1
		pc := waiting[last]
		waiting = waiting[:last]
		if !found[pc] {
			found[pc] = true
			waiting = append(waiting, following(f, pc)...)
		}
	}
	return found
}

// following returns the instructions that are executed with an instruction or may be executed next.
func following(f api.Func, pc int) []int {
	in := f.Code[pc]
	if in.Op != api.OpSelect {
		return code.Next(f, pc)
	}
	if in.B == 0 && in.C == 0 {
		return nil // it waits forever
	}
	l := code.Next(f, pc)
	for i := range in.B {
		l = append(l, pc+1+i)
	}
	return l
}

// called finds the functions of a program that can be called: main, and those to which the executed instructions of such functions
// refer.
func called(p api.Program) []bool {
	found := make([]bool, len(p.Funcs))
	found[p.Main] = true
	for waiting := []int{p.Main}; len(waiting) > 0; {
		f := p.Funcs[waiting[0]]
		waiting = waiting[1:]
		for pc, isExecuted := range executed(f) {
			if in := f.Code[pc]; isExecuted && refers(in) && !found[in.B] {
				found[in.B] = true
				waiting = append(waiting, in.B)
			}
		}
	}
	return found
}

// refers reports whether the operand B of an instruction is a function.
func refers(in api.Instr) bool {
	switch in.Op {
	case api.OpCall, api.OpClosure, api.OpDefer, api.OpGo:
		return true
	}
	return false
}

// reduced returns a function with a return in the place of every instruction that is never executed, so that what these instructions
// would need does not matter.
func reduced(f api.Func) api.Func {
	l := slices.Clone(f.Code)
	for pc, isExecuted := range executed(f) {
		if !isExecuted {
			l[pc] = api.Instr{Op: api.OpReturn, A: -1}
		}
	}
	f.Code = l
	return f
}

// unused returns what remains of a function that is never called: its name and its parameters.
func unused(f api.Func) api.Func {
	return api.Func{Name: f.Name, Params: f.Params, Regs: f.Params, Code: []api.Instr{{Op: api.OpReturn, A: -1}}}
}
