package squeeze

// gather brings the values of a row of names into registers that follow each other, where this takes fewest instructions. It
// reports whether there are such registers.
func (a *assigner) gather(o operands) bool {
	name := *o.row + o.gap
	values := a.values[name : name+o.count]
	var best []int
	least := 0
	for first := o.gap; first+o.count <= len(a.held); first++ {
		a.want = make([]int, len(a.held))
		copy(a.want[first:], values)
		if o.gap == 1 {
			a.want[first-1] = -1
		}
		if !a.protect() {
			continue
		}
		if cost := a.cost(); best == nil || cost < least {
			best, least = a.want, cost
			*o.row = first - o.gap
		}
	}
	if best == nil {
		return false
	}
	a.want = best
	a.assign()
	for i := range o.count {
		a.locked[*o.row+o.gap+i] = true
	}
	return true
}

// write finds registers for the results of an instruction; names are those that it writes.
func (a *assigner) write(o operands, names []int) {
	if o.gap == 1 {
		a.define(names[0], *o.row)
	}
	before := a.last
	for _, x := range o.writes {
		if a.values[*x] <= before {
			a.define(*x, a.place(*x))
		}
		*x = a.holder(a.values[*x])
	}
}

// define gives a name a new value, which a register holds.
func (a *assigner) define(name, register int) {
	a.values[name] = a.newValue()
	a.hold(register, a.values[name])
	a.locked[register] = true
}

// place returns the register for a new value of a name: the one in which it should be, or the one of its old value, if they are free.
func (a *assigner) place(name int) int {
	hint, isHinted := a.hints[name]
	if isHinted && !a.locked[hint] && !a.needed[a.held[hint]] {
		return hint
	}
	if old := a.holder(a.values[name]); old >= 0 && !a.locked[old] && !a.needed[a.held[old]] {
		return old
	}
	return a.take()
}
