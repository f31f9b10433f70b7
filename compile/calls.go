package compile

import "interleave/api"

// call generates a call. The result of a call without one must not be used.
func (g *generator) call(n *api.Node) int {
	register := g.next
	callee := &n.Kids[0]
	switch {
	case isNamed(n):
		return g.named(n)
	case isMethod(n):
		address := g.receiver(callee)
		g.arguments(n)
		g.perform(n, address, register)
		return g.reuse(register)
	}
	g.emit(n, api.OpCallC, g.value(callee), 0, 0)
	return register
}

// named generates a call of a function by its name.
func (g *generator) named(n *api.Node) int {
	first := g.arguments(n)
	number := g.declared[n.Kids[0].Num]
	if n.Type.Kind == api.TNone {
		g.emit(n, api.OpCall, -1, number, first)
		return first
	}
	return g.result(n, api.OpCall, first, number, first)
}

// arguments generates the evaluation of the arguments of a call into registers that follow each other, and returns the first one.
func (g *generator) arguments(n *api.Node) int {
	first := g.next
	for i := range n.Kids[1:] {
		g.push(&n.Kids[i+1])
	}
	return first
}

// receiver generates the address of the receiver of a method, and takes the lowest register that is not in use for it.
func (g *generator) receiver(callee *api.Node) int {
	register := g.next
	x := &callee.Kids[0]
	if x.Kind == api.NName {
		return g.cell(x)
	}
	return g.field(x, g.value(&x.Kids[0]), register)
}

// bound generates the closure of a method with its address and its arguments.
func (g *generator) bound(n, call *api.Node) int {
	register := g.fresh()
	g.receiver(&call.Kids[0])
	g.arguments(call)
	return g.result(n, api.OpClosure, register, g.inner[n], len(call.Kids))
}

// perform generates a method of the synchronization variable at an address. The arguments are in the registers behind that of the
// address; the result, if there is one, is written to a register.
func (g *generator) perform(n *api.Node, address, result int) {
	argument := address + 1
	switch callee := &n.Kids[0]; callee.Text {
	case "Lock":
		g.emit(n, api.OpLock, address, 0, 0)
	case "Unlock":
		g.emit(n, api.OpUnlock, address, 0, 0)
	case "RLock":
		g.emit(n, api.OpRLock, address, 0, 0)
	case "RUnlock":
		g.emit(n, api.OpRUnlock, address, 0, 0)
	case "Wait":
		g.emit(n, api.OpWait, address, 0, 0)
	case "Done":
		g.emit(n, api.OpConst, g.fresh(), -1, 0)
		g.emit(n, api.OpGroup, address, g.next-1, 0)
	case "Do":
		g.once(n, address, argument)
	case "Load":
		g.emit(n, api.OpALoad, result, address, 0)
	case "Store":
		g.emit(n, api.OpAStore, address, argument, 0)
	case "CompareAndSwap":
		g.emit(n, api.OpACas, result, address, argument)
	case "Add":
		g.add(n, address, argument, result)
	}
}

// add generates the method Add of a group or of an atomic integer.
func (g *generator) add(n *api.Node, address, argument, result int) {
	if n.Kids[0].Kids[0].Type.Kind == api.TGroup {
		g.emit(n, api.OpGroup, address, argument, 0)
	} else {
		g.emit(n, api.OpAAdd, result, address, argument)
	}
}

// once generates the method Do.
func (g *generator) once(n *api.Node, address, closure int) {
	var done target
	g.jump(n, api.OpOnce, address, &done)
	g.emit(n, api.OpCallC, closure, 0, 0)
	g.emit(n, api.OpOnceEnd, address, 0, 0)
	g.land(done)
}
