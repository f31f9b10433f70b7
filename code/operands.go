package code

import (
	"math"

	"interleave/api"
)

// fits reports whether the operands of an instruction of function f are as their roles require.
func fits(p api.Program, f api.Func, in api.Instr) bool {
	r := rolesOf(in)
	if r == "" {
		return false
	}
	for i, v := range operands(in) {
		if low, high := limits(p, f, r[i]); v < low || v > high {
			return false
		}
	}
	switch in.Op {
	case api.OpJump, api.OpJumpZ, api.OpOnce:
		return f.Code[in.C].Op != api.OpCase
	case api.OpCall, api.OpDefer, api.OpGo:
		return p.Funcs[in.B].Params <= f.Regs-in.C
	case api.OpClosure:
		return p.Funcs[in.B].Params == 1 && in.A+in.C < f.Regs
	}
	return true
}

// limits returns the least and the greatest value of an operand with a role in function f.
func limits(p api.Program, f api.Func, role byte) (int, int) {
	switch role {
	case destination, source:
		return 0, f.Regs - 1
	case destinationOrNot, sourceOrNot:
		return -1, f.Regs - 1
	case sourcePair:
		return 0, f.Regs - 2
	case arguments:
		return 0, f.Regs
	case captures:
		return 0, api.MaxCells - 1
	case capture:
		return 0, api.MaxCells - 2
	case integer:
		return math.MinInt, math.MaxInt
	case target:
		return 0, len(f.Code) - 1
	case global:
		return 0, len(p.Globals) - 1
	case layout:
		return 0, len(p.Layouts) - 1
	case function:
		return 0, len(p.Funcs) - 1
	case offset:
		return 0, api.MaxCells
	case cases:
		return 0, 8
	case flag:
		return 0, 1
	}
	return 0, 0 // the operand has no role
}
