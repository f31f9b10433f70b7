package link

import (
	"slices"
	"strings"

	"interleave/api"
	"interleave/code"
)

// copied returns a program that shares no memory with p.
func copied(p api.Program) api.Program {
	p.Funcs, p.Globals, p.Layouts = slices.Clone(p.Funcs), slices.Clone(p.Globals), slices.Clone(p.Layouts)
	for i := range p.Funcs {
		p.Funcs[i].Code = slices.Clone(p.Funcs[i].Code)
	}
	for i := range p.Layouts {
		p.Layouts[i] = slices.Clone(p.Layouts[i])
	}
	return p
}

// specifiedValid reports whether p is a part: it is completed as the chapter says.
func specifiedValid(p api.Program) bool {
	q := copied(p)
	end := instrsIn(p, "return -1")
	if p.Main == -1 {
		name := "longer than all other names"
		for _, f := range p.Funcs {
			name += f.Name
		}
		q.Main = len(p.Funcs)
		q.Funcs = append(q.Funcs, api.Func{Name: name, Code: end})
	}
	if q.Main < 0 || q.Main >= len(q.Funcs) || len(q.Funcs[q.Main].Code) == 0 {
		return false
	}
	for i, f := range p.Funcs {
		if len(f.Code) == 0 && f.Regs == f.Params {
			q.Funcs[i].Code = end
		}
	}
	return code.Valid(q)
}

// function is a function of a part, and global one of its global variables.
type function struct {
	api.Func
	part     int
	isImport bool
}

type global struct {
	api.Global
	part int
}

// everything returns the functions and the global variables of all parts.
func everything(l []api.Program) ([]function, []global) {
	var funcs []function
	var globals []global
	for i, p := range l {
		for _, f := range p.Funcs {
			funcs = append(funcs, function{f, i, len(f.Code) == 0})
		}
		for _, g := range p.Globals {
			globals = append(globals, global{g, i})
		}
	}
	return funcs, globals
}

// pairs reports whether there are two elements, in this order, for which something holds.
func pairs[E any](l []E, holds func(a, b E) bool) bool {
	for _, a := range l {
		for _, b := range l {
			if holds(a, b) {
				return true
			}
		}
	}
	return false
}

// specifiedError returns the error of linking parts, without ErrLimit: each error is decided for itself.
func specifiedError(l []api.Program) api.Errno {
	if slices.ContainsFunc(l, func(p api.Program) bool { return !specifiedValid(p) }) {
		return api.ErrArg
	}
	funcs, globals := everything(l)
	mains := 0
	for _, p := range l {
		if p.Main >= 0 {
			mains++
		}
	}
	if mains > 1 || pairs(funcs, func(f, g function) bool { return f.part != g.part && f.Name == g.Name && !f.isImport && !g.isImport }) {
		return api.ErrDuplicate
	}
	isMissing := func(f function) bool {
		return f.isImport && !slices.ContainsFunc(funcs, func(g function) bool { return g.Name == f.Name && !g.isImport }) || !usesOwn(l[f.part], f.Func)
	}
	if mains == 0 || slices.ContainsFunc(funcs, isMissing) {
		return api.ErrName
	}
	if pairs(funcs, func(f, g function) bool { return f.Name == g.Name && f.isImport && !g.isImport && f.Params != g.Params }) {
		return api.ErrMismatch
	}
	if pairs(globals, func(a, b global) bool { return a.Name == b.Name && a.Kind != b.Kind }) {
		return api.ErrMismatch
	}
	return api.OK
}

// usesOwn reports whether a function uses only functions of its part, and not the one that completes the part.
func usesOwn(p api.Program, f api.Func) bool {
	for _, in := range f.Code {
		switch in.Op {
		case api.OpCall, api.OpDefer, api.OpGo, api.OpClosure:
			if in.B < 0 || in.B >= len(p.Funcs) {
				return false
			}
		}
	}
	return true
}

// specifiedLink links parts by joining their texts, in which nothing has a number. Repetitions in the texts are left out.
func specifiedLink(l []api.Program) (api.Program, api.Errno) {
	if e := specifiedError(l); e != api.OK {
		return api.Program{}, e
	}
	var globals, layouts, definitions, main []string
	add := func(l []string, s string) []string {
		if slices.Contains(l, s) {
			return l
		}
		return append(l, s)
	}
	for _, p := range l {
		for _, g := range p.Globals {
			globals = add(globals, showGlobal(g))
		}
		for _, kinds := range p.Layouts {
			layouts = add(layouts, showLayout(kinds))
		}
		for _, f := range p.Funcs {
			if len(f.Code) > 0 {
				definitions = append(definitions, showFunc(p, f))
			}
		}
		if p.Main >= 0 {
			main = append(main, "main "+p.Funcs[p.Main].Name)
		}
	}
	if len(definitions) > api.MaxFuncs || len(globals) > api.MaxGlobals || len(layouts) > api.MaxLayouts {
		return api.Program{}, api.ErrLimit
	}
	return part(strings.Join(slices.Concat(globals, layouts, definitions, main), "; ")), api.OK
}

// specifiedSplit splits a program: the part of a function is the program without the functions that it does not use.
func specifiedSplit(p api.Program) []api.Program {
	if !code.Valid(p) || len(p.Funcs) > 63 {
		return nil
	}
	var l []api.Program
	for k, f := range p.Funcs {
		q := copied(p)
		q.Main = -1
		for i := range q.Funcs {
			if i != k {
				q.Funcs[i].Regs, q.Funcs[i].Code = q.Funcs[i].Params, nil
			}
		}
		q.Funcs = slices.DeleteFunc(q.Funcs, func(g api.Func) bool { return g.Name != f.Name && !uses(p, f, g.Name) })
		for pc, in := range f.Code {
			if name := usedBy(p, in); name != "" {
				q.Funcs[funcWith(q, f.Name)].Code[pc].B = funcWith(q, name)
			}
		}
		if p.Main == k {
			q.Main = funcWith(q, f.Name)
		}
		l = append(l, q)
	}
	return l
}

// usedBy returns the name of the function that an instruction uses, if it uses one.
func usedBy(p api.Program, in api.Instr) string {
	switch in.Op {
	case api.OpCall, api.OpDefer, api.OpGo, api.OpClosure:
		return p.Funcs[in.B].Name
	}
	return ""
}

func uses(p api.Program, f api.Func, name string) bool {
	return slices.ContainsFunc(f.Code, func(in api.Instr) bool { return usedBy(p, in) == name })
}
