package squeeze

import "slices"

// merge is a name that has different values on different ways to an instruction.
type merge struct{ pc, name int }

// meeting is the state on which the code behind the target of jumps relies, on all ways to it.
type meeting struct {
	values []int // of the names; 0 for those that are not needed
	held   []int
	homes  []int // the registers in which the values of the names must be; -1 for none
}

// land begins an instruction to which several ways may lead.
func (a *assigner) land(pc int) {
	m := a.meetings[pc]
	if m == nil && (!a.isReachable || !a.loops[pc]) {
		return
	}
	if a.isReachable {
		a.require(a.needs[pc])
		a.depart(pc)
		a.weaken(pc)
		m = a.meetings[pc]
	}
	if a.loops[pc] { // ways that are not known yet lead to it
		for r := range m.held {
			if !slices.Contains(m.homes, r) {
				m.held[r] = 0
			}
		}
	}
	a.values, a.held = slices.Clone(m.values), slices.Clone(m.held)
	a.isReachable = true
}

// depart prepares a way to a target. The first way decides where the values will be. It must not come from behind the target.
func (a *assigner) depart(pc int) {
	if m := a.meetings[pc]; m != nil {
		a.meet(pc, m)
		return
	}
	a.meetings[pc] = a.newMeeting(pc)
	a.hasFailed = a.hasFailed || pc < a.pc
}

func (a *assigner) newMeeting(pc int) *meeting {
	m := &meeting{values: make([]int, a.Regs), homes: slices.Repeat([]int{-1}, a.Regs)}
	for name, isNeeded := range a.needs[pc] {
		value := a.values[name]
		if isNeeded && !a.merged[merge{pc, name}] {
			m.values[name] = value
			if !a.isMade(value) {
				m.homes[name] = a.register(value)
			}
		}
	}
	for name, isNeeded := range a.needs[pc] {
		if isNeeded && a.merged[merge{pc, name}] {
			m.homes[name] = a.own(a.values[name])
			m.values[name] = a.newValue()
		}
	}
	m.held = slices.Clone(a.held)
	for name, home := range m.homes {
		if home >= 0 {
			m.held[home] = m.values[name]
		}
	}
	return m
}

// own returns a register that holds a value and is not locked yet, and locks it.
func (a *assigner) own(value int) int {
	for r, held := range a.held {
		if held == value && !a.locked[r] {
			a.locked[r] = true
			return r
		}
	}
	r := a.take()
	a.fill(r, value)
	a.locked[r] = true
	return r
}

// meet brings the values of the names to their homes.
func (a *assigner) meet(pc int, m *meeting) {
	for name, home := range m.homes {
		value := a.values[name]
		switch isMerged := a.merged[merge{pc, name}]; {
		case m.values[name] == 0:
		case !isMerged && value != m.values[name]:
			a.merged[merge{pc, name}] = true
			a.again = true
		case home >= 0:
			a.want[home] = value
		}
	}
	if !a.protect() {
		a.keep(pc)
		return
	}
	a.assign()
	for _, home := range m.homes {
		if home >= 0 {
			a.locked[home] = true
		}
	}
}

// keep lets the closure stay in register 0 on all ways to a target, because a jump to it needs it on its other way.
func (a *assigner) keep(pc int) {
	a.again = a.again || a.closure != 0 && !a.keeps[pc]
	a.keeps[pc] = true
	a.hasFailed = true
}

// weaken removes from what the code at a target relies on what does not hold on the present way.
func (a *assigner) weaken(pc int) {
	m := a.meetings[pc]
	for r, value := range a.held {
		if m.held[r] != value && !slices.Contains(m.homes, r) {
			m.held[r] = 0
		}
	}
}
