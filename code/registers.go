package code

import (
	"slices"

	"interleave/api"
)

// instruction returns an instruction whose registers can be listed. It returns false where there is none, for an OpCase, which has no
// registers of its own, and for one whose operands do not fit: they could name more registers than a list can hold.
func instruction(p api.Program, fn, pc int) (api.Instr, bool) {
	if fn < 0 || fn >= len(p.Funcs) {
		return api.Instr{}, false
	}
	f := p.Funcs[fn]
	if pc < 0 || pc >= len(f.Code) {
		return api.Instr{}, false
	}
	in := f.Code[pc]
	if in.Op == api.OpCase || !hasSizes(f) || !fits(p, f, in) {
		return api.Instr{}, false
	}
	return in, true
}

// sources returns the registers that an instruction reads, and those that an OpSelect reads for an OpCase.
func sources(p api.Program, in api.Instr) []int {
	var l []int
	r := rolesOf(in)
	for i, v := range operands(in) {
		switch r[i] {
		case source, sourceOrNot:
			l = append(l, v)
		case sourcePair:
			l = append(l, v, v+1)
		case arguments:
			l = append(l, consecutive(v, p.Funcs[in.B].Params)...)
		case captures:
			l = append(l, consecutive(in.A+1, v)...)
		case capture:
			l = append(l, 0)
		}
	}
	return l
}

// destinations returns the registers that an instruction always writes.
func destinations(in api.Instr) []int {
	var l []int
	r := rolesOf(in)
	for i, v := range operands(in) {
		switch r[i] {
		case destination, destinationOrNot:
			l = append(l, v)
		}
	}
	return l
}

// consecutive returns count registers.
func consecutive(first, count int) []int {
	var l []int
	for k := range count {
		l = append(l, first+k)
	}
	return l
}

// existing leaves out the operands that are -1.
func existing(l []int) []int {
	return slices.DeleteFunc(l, func(r int) bool { return r < 0 })
}

// ordered returns numbers in increasing order and without repetitions.
func ordered(l []int) []int {
	slices.Sort(l)
	return slices.Compact(l)
}

// leadingCases returns the instructions OpCase with which code begins.
func leadingCases(l []api.Instr) []api.Instr {
	for i, in := range l {
		if in.Op != api.OpCase {
			return l[:i]
		}
	}
	return l
}
