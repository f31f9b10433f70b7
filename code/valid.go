package code

import "interleave/api"

// hasNames reports whether the functions have names, and the global variables, too.
func hasNames(p api.Program) bool {
	var funcs, globals []string
	for _, f := range p.Funcs {
		funcs = append(funcs, f.Name)
	}
	for _, g := range p.Globals {
		globals = append(globals, g.Name)
	}
	return areNames(funcs) && areNames(globals)
}

// areNames reports whether names are distinct and not empty.
func areNames(l []string) bool {
	found := map[string]bool{"": true}
	for _, s := range l {
		if found[s] {
			return false
		}
		found[s] = true
	}
	return true
}

// hasKinds reports whether the cells of the layouts and of the global variables have kinds.
func hasKinds(p api.Program) bool {
	var globals []int
	for _, g := range p.Globals {
		globals = append(globals, g.Kind)
	}
	for _, l := range p.Layouts {
		if len(l) > api.MaxCells || !areKinds(l) {
			return false
		}
	}
	return areKinds(globals)
}

func areKinds(l []int) bool {
	for _, kind := range l {
		if kind != api.CellInt && kind != api.CellRef {
			return false
		}
	}
	return true
}

func hasMain(p api.Program) bool {
	return p.Main >= 0 && p.Main < len(p.Funcs) && p.Funcs[p.Main].Params == 0
}

func hasSizes(f api.Func) bool {
	return f.Params >= 0 && f.Params <= f.Regs && f.Regs <= api.MaxRegs && len(f.Code) >= 1 && len(f.Code) <= api.MaxCode
}

// hasEnd reports whether a function, which has code, cannot continue behind its last instruction.
func hasEnd(f api.Func) bool {
	switch f.Code[len(f.Code)-1].Op {
	case api.OpReturn, api.OpJump:
		return true
	}
	return false
}

// hasCases reports whether in a function, which has code, each OpSelect is followed by its cases, and no other instruction by any.
func hasCases(f api.Func) bool {
	for pc, in := range f.Code {
		count := 0
		if in.Op == api.OpSelect {
			count = in.B
		}
		if in.Op != api.OpCase && len(leadingCases(f.Code[pc+1:])) != count {
			return false
		}
	}
	return f.Code[0].Op != api.OpCase
}

func hasOperands(p api.Program, f api.Func) bool {
	for _, in := range f.Code {
		if in.At < 0 || !fits(p, f, in) {
			return false
		}
	}
	return true
}
