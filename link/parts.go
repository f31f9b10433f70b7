package link

import (
	"slices"
	"strconv"

	"interleave/api"
)

// noMain is the Main of a part that has no main function.
const noMain = -1

// isImport reports whether a function is an import. In a part, all functions without code are imports.
func isImport(f api.Func) bool { return len(f.Code) == 0 && f.Regs == f.Params }

// importOf returns the import of a function.
func importOf(f api.Func) api.Func { return api.Func{Name: f.Name, Params: f.Params, Regs: f.Params} }

// completed returns the program that a part must become: its imports have code, and it has a main function.
func completed(p api.Program) api.Program {
	end := []api.Instr{{Op: api.OpReturn, A: -1}}
	l := slices.Clone(p.Funcs)
	for i := range l {
		if isImport(l[i]) {
			l[i].Code = end
		}
	}
	if p.Main == noMain {
		p.Main = len(l)
		l = append(l, api.Func{Name: unusedName(l), Code: end})
	}
	p.Funcs = l
	return p
}

// unusedName returns a name that no function has.
func unusedName(l []api.Func) string {
	for n := 0; ; n++ {
		name := strconv.Itoa(n)
		if !slices.ContainsFunc(l, func(f api.Func) bool { return f.Name == name }) {
			return name
		}
	}
}

// partOf returns the part of function k of a program.
func partOf(p api.Program, k int) api.Program {
	part := api.Program{Globals: slices.Clone(p.Globals), Main: noMain}
	for _, kinds := range p.Layouts {
		part.Layouts = append(part.Layouts, slices.Clone(kinds))
	}
	contained := map[int]bool{k: true}
	for _, in := range p.Funcs[k].Code {
		if usesFunc(in.Op) {
			contained[in.B] = true
		}
	}
	numbers := map[int]int{}
	for n, f := range p.Funcs {
		if contained[n] {
			numbers[n] = len(part.Funcs)
			part.Funcs = append(part.Funcs, importOf(f))
		}
	}
	own := numbers[k]
	part.Funcs[own] = p.Funcs[k]
	part.Funcs[own].Code = replaced(p.Funcs[k].Code, func(in api.Instr) api.Instr {
		if usesFunc(in.Op) {
			in.B = numbers[in.B]
		}
		return in
	})
	if k == p.Main {
		part.Main = own
	}
	return part
}

// usesFunc reports whether the operand B of an operation is the number of a function.
func usesFunc(op int) bool {
	switch op {
	case api.OpCall, api.OpDefer, api.OpGo, api.OpClosure:
		return true
	}
	return false
}

// replaced returns the instructions that replace the given ones.
func replaced(l []api.Instr, replace func(api.Instr) api.Instr) []api.Instr {
	l = slices.Clone(l)
	for i := range l {
		l[i] = replace(l[i])
	}
	return l
}
