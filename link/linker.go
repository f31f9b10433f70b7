package link

import (
	"slices"

	"interleave/api"
)

// linker makes a program of parts, in steps that are performed in the order in which errors are named. The maps give the numbers of
// functions, global variables and layouts in the program.
type linker struct {
	program                 api.Program
	funcs, globals, layouts map[string]int
}

func newLinker() *linker {
	return &linker{program: api.Program{Main: noMain}, funcs: map[string]int{}, globals: map[string]int{}, layouts: map[string]int{}}
}

// define adds the definitions of the parts, with their code as it is.
func (k *linker) define(l []api.Program) api.Errno {
	for _, p := range l {
		for i, f := range p.Funcs {
			if isImport(f) {
				continue
			}
			number := len(k.program.Funcs)
			if i == p.Main {
				if k.program.Main != noMain {
					return api.ErrDuplicate
				}
				k.program.Main = number
			}
			if _, found := k.funcs[f.Name]; found {
				return api.ErrDuplicate
			}
			k.funcs[f.Name] = number
			k.program.Funcs = append(k.program.Funcs, f)
		}
	}
	return api.OK
}

// resolve requires that there is a main function, and a definition for every function that a part imports or uses.
func (k *linker) resolve(l []api.Program) api.Errno {
	if k.program.Main == noMain {
		return api.ErrName
	}
	for _, p := range l {
		for _, f := range p.Funcs {
			if _, found := k.funcs[f.Name]; !found || usesCompletion(p, f) {
				return api.ErrName
			}
		}
	}
	return api.OK
}

// usesCompletion reports whether a function of a part uses the main function that only completes the part. No part defines that one.
func usesCompletion(p api.Program, f api.Func) bool {
	return slices.ContainsFunc(f.Code, func(in api.Instr) bool { return usesFunc(in.Op) && in.B == len(p.Funcs) })
}

// match requires that imports fit their definitions, and adds the global variables, which must fit each other.
func (k *linker) match(l []api.Program) api.Errno {
	for _, p := range l {
		for _, f := range p.Funcs {
			if f.Params != k.program.Funcs[k.funcs[f.Name]].Params {
				return api.ErrMismatch
			}
		}
		for _, g := range p.Globals {
			number, found := k.globals[g.Name]
			if !found {
				number = len(k.program.Globals)
				k.globals[g.Name] = number
				k.program.Globals = append(k.program.Globals, g)
			}
			if g.Kind != k.program.Globals[number].Kind {
				return api.ErrMismatch
			}
		}
	}
	return api.OK
}

// limit adds the layouts, and requires that the program is not too large.
func (k *linker) limit(l []api.Program) api.Errno {
	for _, p := range l {
		for _, kinds := range p.Layouts {
			key := keyOf(kinds)
			if _, found := k.layouts[key]; !found {
				k.layouts[key] = len(k.program.Layouts)
				k.program.Layouts = append(k.program.Layouts, slices.Clone(kinds))
			}
		}
	}
	if len(k.program.Funcs) > api.MaxFuncs || len(k.program.Globals) > api.MaxGlobals || len(k.program.Layouts) > api.MaxLayouts {
		return api.ErrLimit
	}
	return api.OK
}

// keyOf returns a string that only equal layouts share. Layouts of parts have kinds that are bytes.
func keyOf(kinds []int) string {
	var b []byte
	for _, kind := range kinds {
		b = append(b, byte(kind))
	}
	return string(b)
}

// relocate replaces the numbers in the code of the definitions by those in the program.
func (k *linker) relocate(l []api.Program) {
	for _, p := range l {
		replace := k.replacement(p)
		for _, f := range p.Funcs {
			if !isImport(f) {
				k.program.Funcs[k.funcs[f.Name]].Code = replaced(f.Code, replace)
			}
		}
	}
}

// replacement returns the function that replaces the numbers in an instruction of a part. Each name is looked up only once, as it may be
// long and used often.
func (k *linker) replacement(p api.Program) func(api.Instr) api.Instr {
	var funcs, globals, layouts []int
	for _, f := range p.Funcs {
		funcs = append(funcs, k.funcs[f.Name])
	}
	for _, g := range p.Globals {
		globals = append(globals, k.globals[g.Name])
	}
	for _, kinds := range p.Layouts {
		layouts = append(layouts, k.layouts[keyOf(kinds)])
	}
	return func(in api.Instr) api.Instr {
		switch {
		case usesFunc(in.Op):
			in.B = funcs[in.B]
		case in.Op == api.OpGlobal:
			in.B = globals[in.B]
		case in.Op == api.OpNew:
			in.B = layouts[in.B]
		}
		return in
	}
}
