// Package squeeze changes the code of functions so that it needs fewer registers.
package squeeze

import (
	"slices"

	"interleave/api"
)

// The sizes of code up to which the work is worthwhile. The functions of moderate files are smaller.
const (
	mostCode  = 5000
	mostNames = 256
)

// Func returns a function with the same visible instructions, allocations and faults that has at most limit registers and MaxCode
// instructions, and false if none is found. Params are the numbers of parameters of the functions of the program.
//
// The code of f is that of a valid program, except that it may have more registers and instructions. It reads only registers that it
// has set, and what a select instruction receives only where that case was chosen; if it has an OpCap, it never writes register 0.
func Func(f api.Func, params []int, limit int) (api.Func, bool) {
	if limit < max(f.Params, 1) || f.Regs > mostNames || len(f.Code) > mostCode {
		return api.Func{}, false
	}
	s := newSource(f, params, limit)
	merged := map[merge]bool{}
	for {
		s.findNeeds()
		a := newAssigner(s, merged)
		a.run()
		switch {
		case a.again:
			continue
		case a.hasFailed:
			return api.Func{}, false
		}
		return api.Func{Name: f.Name, Params: f.Params, Regs: max(a.used, f.Params), Code: a.patched()}, true
	}
}

// assigner writes the new code. It follows the old one, and knows which value each name has and which value each register holds.
// Instructions that only copy or make values are left out: a value is copied or made where another instruction needs it, so that
// until then it may have no register of its own.
type assigner struct {
	*source
	store
	values      []int // of the names
	pc          int
	isReachable bool
	starts      []int            // where the instructions so far begin in the new code
	meetings    map[int]*meeting // at the targets of jumps
	merged      map[merge]bool
	again       bool // whether the work has to begin again, because something about the targets of jumps turned out
}

func newAssigner(s *source, merged map[merge]bool) *assigner {
	a := &assigner{source: s, store: newStore(s.limit), merged: merged, isReachable: true, meetings: map[int]*meeting{}}
	a.values, a.starts = make([]int, s.Regs), make([]int, len(s.Code))
	for i := range s.Params {
		a.values[i] = a.newValue()
		a.hold(i, a.values[i])
	}
	if slices.ContainsFunc(s.Code, func(in api.Instr) bool { return in.Op == api.OpCap }) {
		a.closure = a.values[0]
	}
	return a
}

func (a *assigner) run() {
	for pc, in := range a.Code {
		if in.Op == api.OpCase {
			continue
		}
		a.pc = pc
		a.land(pc)
		a.starts[pc] = len(a.out)
		if a.isReachable {
			a.translate(in)
		}
		if a.hasFailed = a.hasFailed || len(a.out) > api.MaxCode; a.hasFailed {
			return
		}
	}
}

// patched returns the new code, with jumps to places in it.
func (a *assigner) patched() []api.Instr {
	for i := range a.out {
		if in := &a.out[i]; isJump(*in) {
			in.C = a.starts[in.C]
		}
	}
	return a.out
}

func isJump(in api.Instr) bool {
	return in.Op == api.OpJump || in.Op == api.OpJumpZ || in.Op == api.OpOnce
}

func (a *assigner) translate(in api.Instr) {
	switch in.Op {
	case api.OpMove:
		a.values[in.A] = a.values[in.B]
	case api.OpConst, api.OpNil, api.OpGlobal, api.OpCap:
		a.values[in.A] = a.valueOf(in)
	default:
		a.perform(a.group(a.pc))
	}
}

// perform writes an instruction with its cases. It reads its operands before it writes its results, so that they can share registers.
func (a *assigner) perform(l []api.Instr) {
	in, o := l[0], a.operandsOf(l)
	read, written, later := o.read(), o.written(), a.after(a.pc)
	for _, name := range written {
		later[name] = false
	}
	a.require(later)
	a.isClosureSpent = !a.needed[a.closure]
	for _, name := range read {
		a.need(a.values[name])
	}
	if o.row != nil && !a.gather(o) {
		a.hasFailed = true
		return
	}
	if isJump(in) {
		a.depart(in.C)
	}
	for _, x := range o.reads {
		*x = a.register(a.values[*x])
	}
	if isJump(in) {
		a.weaken(in.C)
	}
	a.require(later)
	a.write(o, written)
	a.out = append(a.out, l...)
	a.isReachable = in.Op != api.OpJump && in.Op != api.OpReturn
}

// require makes the values of some names the only needed ones, and unlocks all registers.
func (a *assigner) require(names []bool) {
	clear(a.needed)
	clear(a.locked)
	for name, isNeeded := range names {
		if isNeeded {
			a.need(a.values[name])
		}
	}
}
