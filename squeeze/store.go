package squeeze

import (
	"slices"

	"interleave/api"
)

// store is what the registers hold: values, which are numbers, or 0 for what does not matter.
type store struct {
	held           []int
	want           []int // what the registers will hold: 0 for what they hold now, -1 for something else
	locked         []bool
	needed         map[int]bool // the values that must not be lost
	makers         map[int]api.Instr
	made           map[api.Instr]int // the values that can be made at any time, by their makers
	closure        int               // the value that must stay in register 0 as long as it is needed, or 0
	isClosureSpent bool              // whether it is not needed behind the current instruction
	last           int               // the last value
	used           int               // the number of registers
	out            []api.Instr
	hasFailed      bool
}

func newStore(limit int) store {
	return store{
		held: make([]int, limit), want: make([]int, limit), locked: make([]bool, limit),
		needed: map[int]bool{}, makers: map[int]api.Instr{}, made: map[api.Instr]int{},
	}
}

func (s *store) newValue() int {
	s.last++
	return s.last
}

// valueOf returns the value that an instruction makes.
func (s *store) valueOf(maker api.Instr) int {
	key := maker
	key.A, key.At = 0, 0
	if s.made[key] == 0 {
		s.made[key] = s.newValue()
		s.makers[s.made[key]] = maker
	}
	return s.made[key]
}

func (s *store) isMade(value int) bool { return s.makers[value].Op != 0 }

// need makes a value a needed one, with the closure from which it is made.
func (s *store) need(value int) {
	s.needed[value] = value != 0
	if s.makers[value].Op == api.OpCap {
		s.needed[s.closure] = true
	}
}

func (s *store) hold(register, value int) {
	s.held[register] = value
	s.used = max(s.used, register+1)
}

// holder returns a register that holds a value, or -1.
func (s *store) holder(value int) int { return slices.Index(s.held, value) }

// register returns a register that holds a value, and locks it.
func (s *store) register(value int) int {
	r := s.holder(value)
	if r < 0 {
		r = s.take()
		s.fill(r, value)
	}
	s.locked[r] = true
	return r
}

// fill copies or makes a value.
func (s *store) fill(register, value int) {
	in := s.makers[value]
	if from := s.holder(value); from >= 0 {
		in = api.Instr{Op: api.OpMove, B: from}
	}
	s.hasFailed = s.hasFailed || in.Op == 0
	in.A = register
	s.out = append(s.out, in)
	s.hold(register, value)
}

// take returns a register that may be overwritten.
func (s *store) take() int {
	r := s.first(func(r int) bool { return !s.locked[r] && s.want[r] <= 0 && !s.isAwaited(r) && s.isFree(r) })
	s.hasFailed = s.hasFailed || r < 0
	return max(r, 0)
}

// first returns the first of the possible registers: of those with values that are not needed, if there are any. It returns -1 if
// there are no possible ones at all.
func (s *store) first(isPossible func(register int) bool) int {
	found := -1
	for r, value := range s.held {
		isBetter := found < 0 || s.needed[s.held[found]] && !s.needed[value]
		if isBetter && isPossible(r) {
			found = r
		}
	}
	return found
}

// isFree reports whether no needed value is lost if a register is overwritten.
func (s *store) isFree(register int) bool {
	before := s.want[register]
	s.want[register] = -1
	isLost := s.isLost(s.held[register])
	s.want[register] = before
	return !isLost
}

// isLost reports whether a value is needed, but no register will hold it, and it cannot be made. For the closure, only register 0
// counts.
func (s *store) isLost(value int) bool {
	if !s.needed[value] || s.isMade(value) {
		return false
	}
	for r, next := range s.want {
		if next == value || next == 0 && s.held[r] == value {
			return value == s.closure && r > 0
		}
	}
	return true
}

// isAwaited reports whether a register is the only one with a value that another one will hold.
func (s *store) isAwaited(register int) bool {
	value := s.held[register]
	if value == 0 || s.isMade(value) {
		return false
	}
	isAwaited := false
	for r, next := range s.want {
		if r != register {
			if s.held[r] == value {
				return false
			}
			isAwaited = isAwaited || next == value
		}
	}
	return isAwaited
}

// protect finds other registers for the values that would be lost, and reports whether there are enough of them.
func (s *store) protect() bool {
	for r, value := range s.held {
		if !s.isLost(value) || value == s.closure && s.isClosureSpent && s.want[r] < 0 {
			continue
		}
		to := s.first(func(to int) bool { return s.want[to] == 0 && s.isFree(to) })
		if to < 0 || value == s.closure {
			return false
		}
		s.want[to] = value
	}
	return true
}

// assign lets the registers hold what they will hold.
func (s *store) assign() {
	for waiting := 0; waiting >= 0 && !s.hasFailed; {
		filled := false
		waiting = -1
		for r, value := range s.want {
			switch {
			case value <= 0 || s.held[r] == value:
			case s.isAwaited(r):
				waiting = r
			default:
				s.fill(r, value)
				filled = true
			}
		}
		if waiting >= 0 && !filled {
			s.spend()
			s.fill(s.take(), s.held[waiting])
		}
	}
	clear(s.want)
}

// spend gives up the closure if a result will take its register, so that it is not needed behind the current instruction. It is called
// when registers wait for each other: these wait for values that cannot be made, so all values that are made from the closure have been
// made.
func (s *store) spend() {
	if s.want[0] < 0 {
		s.needed[s.closure] = false
	}
}

// cost returns how many registers do not hold what they will hold.
func (s *store) cost() int {
	n := 0
	for r, value := range s.want {
		if value > 0 && s.held[r] != value {
			n++
		}
	}
	return n
}
