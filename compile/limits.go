package compile

import (
	"slices"

	"interleave/api"
	"interleave/squeeze"
)

const maxCases = 8 // of a select statement, other than default

// fit reports whether a program can have these tables. The layouts of boxed variables are always needed.
func (t *tables) fit() bool {
	for _, l := range t.layouts {
		if len(l) > api.MaxCells {
			return false
		}
	}
	return len(t.functions) <= api.MaxFuncs && len(t.globals) <= api.MaxGlobals && len(t.layouts) <= api.MaxLayouts
}

// shrink replaces the functions of a program that are beyond the limits by ones with the same behavior, and reports whether this
// succeeds. The generator gives every variable a register up to the end of its scope, and every operand up to the instruction that
// needs it; few functions are so large that this is too much. Params are the numbers of parameters of the functions.
func shrink(p *api.Program, params []int) bool {
	isCalled := called(*p)
	for i, f := range p.Funcs {
		if !fits(f) && !isCalled[i] {
			f = unused(f)
		}
		if !fits(f) {
			smaller, ok := squeeze.Func(reduced(f), params, api.MaxRegs)
			if !ok {
				return false
			}
			f = smaller
		}
		p.Funcs[i] = f
	}
	return true
}

// fits reports whether a function is within the limits. A function literal that uses more captured values than a closure can have is
// never called in a program whose other functions fit, because evaluating it takes too many registers.
func fits(f api.Func) bool {
	isBeyond := func(in api.Instr) bool { return in.Op == api.OpCap && in.B > api.MaxCells-2 }
	return f.Regs <= api.MaxRegs && len(f.Code) <= api.MaxCode && !slices.ContainsFunc(f.Code, isBeyond)
}

// selectsFit reports whether no select statement within a node has too many cases.
func selectsFit(n *api.Node) bool {
	if n.Kind == api.NSelect && len(communications(n)) > maxCases {
		return false
	}
	for i := range n.Kids {
		if !selectsFit(&n.Kids[i]) {
			return false
		}
	}
	return true
}

// communications returns the cases of a select statement other than default.
func communications(n *api.Node) []*api.Node {
	var l []*api.Node
	for i := range n.Kids {
		if c := &n.Kids[i]; c.Kids[0].Kind != api.NNone {
			l = append(l, c)
		}
	}
	return l
}
