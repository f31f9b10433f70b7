package compile

import (
	"interleave/api"
	"interleave/squeeze"
)

const maxCases = 8 // of a select statement, other than default

// fit reports whether a program can have these tables. The layouts of boxed variables are always needed.
func (t *tables) fit() bool {
	for _, l := range t.layouts {
		if len(l) > api.MaxCells {
			return false
		}
	}
	return len(t.functions) <= api.MaxFuncs && len(t.globals) <= api.MaxGlobals && len(t.layouts) <= api.MaxLayouts
}

// shrink returns a function with the same behavior that is within the limits, and false if none is found. The generator gives every
// variable a register up to the end of its scope, and every operand up to the instruction that needs it; few functions are so large
// that this is too much.
func shrink(t *tables, f api.Func) (api.Func, bool) {
	if fits(f) {
		return f, true
	}
	return squeeze.Func(f, t.params(), api.MaxRegs)
}

func fits(f api.Func) bool { return f.Regs <= api.MaxRegs && len(f.Code) <= api.MaxCode }

// selectsFit reports whether no select statement within a node has too many cases.
func selectsFit(n *api.Node) bool {
	if n.Kind == api.NSelect && len(communications(n)) > maxCases {
		return false
	}
	for i := range n.Kids {
		if !selectsFit(&n.Kids[i]) {
			return false
		}
	}
	return true
}

// communications returns the cases of a select statement other than default.
func communications(n *api.Node) []*api.Node {
	var l []*api.Node
	for i := range n.Kids {
		if c := &n.Kids[i]; c.Kids[0].Kind != api.NNone {
			l = append(l, c)
		}
	}
	return l
}
