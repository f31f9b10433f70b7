package squeeze

import (
	"slices"

	"interleave/api"
	"interleave/code"
)

// source is the code of a function with what is known of it. Its registers are called names.
type source struct {
	api.Func
	params []int // the numbers of parameters of the functions of the program
	limit  int
	loops  map[int]bool // the targets of jumps back
	hints  map[int]int  // the registers in which some names should be
	caps   [][]bool     // the names that may have a captured value before each instruction: they need the closure in register 0
	keeps  map[int]bool // the instructions before which the closure is needed in any case
	needs  [][]bool     // the names that are needed before each instruction
}

func newSource(f api.Func, params []int, limit int) *source {
	s := &source{Func: f, params: params, limit: limit, loops: map[int]bool{}, hints: map[int]int{}, keeps: map[int]bool{}}
	s.findCaps()
	s.findHints()
	for pc, in := range f.Code {
		if isJump(in) && in.C <= pc {
			s.loops[in.C] = true
		}
	}
	return s
}

// findCaps goes through the code only once: where a jump back leads to, captured values with other names are merged ones.
func (s *source) findCaps() {
	s.caps = make([][]bool, len(s.Code))
	for pc := range s.Code {
		s.caps[pc] = make([]bool, s.Regs)
	}
	for pc := range s.Code {
		caps := s.capsBehind(pc)
		for _, next := range code.Next(s.Func, pc) {
			if next > pc {
				include(s.caps[next], caps)
			}
		}
	}
}

// capsBehind returns the names that may have a captured value after an instruction.
func (s *source) capsBehind(pc int) []bool {
	caps := slices.Clone(s.caps[pc])
	in := s.Code[pc]
	for _, name := range s.operandsOf(s.group(pc)).written() {
		caps[name] = in.Op == api.OpCap || in.Op == api.OpMove && s.caps[pc][in.B]
	}
	return caps
}

// include adds other names to some names.
func include(names, others []bool) {
	for name, isOne := range others {
		names[name] = names[name] || isOne
	}
}

func (s *source) findNeeds() {
	s.needs = make([][]bool, len(s.Code))
	for changed := true; changed; {
		changed = false
		for pc := len(s.Code) - 1; pc >= 0; pc-- {
			if needs := s.before(pc); !slices.Equal(needs, s.needs[pc]) {
				s.needs[pc], changed = needs, true
			}
		}
	}
}

// before returns the names that are needed before an instruction, as far as is known of those behind it.
func (s *source) before(pc int) []bool {
	needs := s.after(pc)
	if s.Code[pc].Op == api.OpCase {
		return needs
	}
	o := s.operandsOf(s.group(pc))
	for _, name := range o.written() {
		needs[name] = false
	}
	for _, name := range o.read() {
		needs[name] = true
	}
	for name, isCap := range s.caps[pc] {
		if isCap && needs[name] {
			needs[0] = true
		}
	}
	if s.keeps[pc] {
		needs[0] = true
	}
	return needs
}

// after returns the names that are needed after an instruction.
func (s *source) after(pc int) []bool {
	needs := make([]bool, s.Regs)
	for _, next := range code.Next(s.Func, pc) {
		include(needs, s.needs[next])
	}
	return needs
}

// group returns a copy of an instruction with its cases.
func (s *source) group(pc int) []api.Instr {
	cases := 0
	if in := s.Code[pc]; in.Op == api.OpSelect {
		cases = in.B
	}
	return slices.Clone(s.Code[pc : pc+1+cases])
}

// findHints finds the registers for the variables that the closure with most values captures: if they are there anyway, the row of
// these values needs no further registers for them.
func (s *source) findHints() {
	most := -1
	for pc, in := range s.Code {
		if in.Op == api.OpClosure && (most < 0 || in.C > s.Code[most].C) {
			most = pc
		}
	}
	if most < 0 || s.Code[most].C > s.limit {
		return
	}
	closure := s.Code[most]
	for _, in := range s.Code[max(most-closure.C, 0):most] {
		if place := in.A - closure.A - 1; in.Op == api.OpMove && place >= 0 && place < closure.C {
			s.hints[in.B] = s.limit - closure.C + place
		}
	}
}
