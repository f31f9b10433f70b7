package compile

import "interleave/api"

func (g *generator) statementTable() map[int]func(n *api.Node) {
	return map[int]func(n *api.Node){
		api.NVar: g.variable, api.NDefine: g.definition, api.NAssign: g.assignment, api.NExpr: g.evaluation,
		api.NGo: g.later, api.NDefer: g.later, api.NSend: g.sending, api.NClose: g.closing, api.NPrint: g.printing,
		api.NIf: g.conditional, api.NFor: g.loop, api.NReturn: g.returning, api.NBlock: g.block, api.NSelect: g.choice,
	}
}

// block generates statements with a scope of their own.
func (g *generator) block(n *api.Node) {
	outer := g.next
	for i := range n.Kids {
		g.statement(&n.Kids[i])
	}
	g.next = outer
}

// statement generates a statement. Only the register of a variable remains in use.
func (g *generator) statement(n *api.Node) {
	before := g.next
	g.statements[n.Kind](n)
	if n.Kind != api.NVar && n.Kind != api.NDefine {
		g.next = before
	}
}

// variable generates the declaration of a variable with its type.
func (g *generator) variable(n *api.Node) {
	if n.Kids[1].Kind == api.NNone {
		g.declareZero(n)
		return
	}
	g.declare(n, func() int { return g.value(&n.Kids[1]) })
}

func (g *generator) definition(n *api.Node) {
	g.declare(n, func() int { return g.value(&n.Kids[0]) })
}

func (g *generator) assignment(n *api.Node) {
	assign := g.assignable(&n.Kids[0])
	assign(g.value(&n.Kids[1]))
}

// assignable generates the evaluation of the operands of a target, and returns what generates the assignment of a register to it.
func (g *generator) assignable(n *api.Node) func(value int) {
	switch n.Kind {
	case api.NMember:
		x := g.value(&n.Kids[0])
		return func(value int) { g.store(n, g.field(n, x, g.fresh()), value) }
	case api.NIndex:
		x, i := g.value(&n.Kids[0]), g.value(&n.Kids[1])
		return func(value int) { g.store(n, g.element(n, x, i, g.fresh()), value) }
	}
	if g.isRegister(n) {
		return func(value int) { g.emit(n, api.OpMove, g.places[n.Num], value, 0) }
	}
	return func(value int) { g.store(n, g.cell(n), value) }
}

func (g *generator) store(n *api.Node, address, value int) {
	g.emit(n, api.OpStore, address, value, 0)
}

func (g *generator) evaluation(n *api.Node) { g.value(&n.Kids[0]) }

func (g *generator) sending(n *api.Node) {
	channel, value := g.value(&n.Kids[0]), g.value(&n.Kids[1])
	g.emit(n, api.OpSend, channel, value, 0)
}

func (g *generator) closing(n *api.Node) { g.emit(n, api.OpClose, g.value(&n.Kids[0]), 0, 0) }

func (g *generator) printing(n *api.Node) { g.emit(n, api.OpPrint, g.value(&n.Kids[0]), 0, 0) }

// unless generates a jump to a target that is taken if a condition does not hold.
func (g *generator) unless(condition *api.Node, to *target) {
	before := g.next
	g.jump(condition, api.OpJumpZ, g.value(condition), to)
	g.next = before
}

func (g *generator) conditional(n *api.Node) {
	var otherwise, end target
	g.unless(&n.Kids[0], &otherwise)
	g.block(&n.Kids[1])
	if n.Kids[2].Kind == api.NNone {
		g.land(otherwise)
		return
	}
	g.jump(n, api.OpJump, 0, &end)
	g.land(otherwise)
	g.statement(&n.Kids[2])
	g.land(end)
}

func (g *generator) loop(n *api.Node) {
	var end target
	start := len(g.code)
	if n.Kids[0].Kind != api.NNone {
		g.unless(&n.Kids[0], &end)
	}
	g.block(&n.Kids[1])
	g.emit(n, api.OpJump, 0, 0, start)
	g.land(end)
}

func (g *generator) returning(n *api.Node) {
	result := -1
	if len(n.Kids) > 0 {
		result = g.value(&n.Kids[0])
	}
	g.emit(n, api.OpReturn, result, 0, 0)
}

// later generates a go statement or a defer statement.
func (g *generator) later(n *api.Node) {
	call := &n.Kids[0]
	byName, byClosure := api.OpGo, api.OpGoC
	if n.Kind == api.NDefer {
		byName, byClosure = api.OpDefer, api.OpDeferC
	}
	switch {
	case isNamed(call):
		g.emit(n, byName, 0, g.declared[call.Kids[0].Num], g.arguments(call))
	case isMethod(call):
		g.emit(n, byClosure, g.bound(n, call), 0, 0)
	default:
		g.emit(n, byClosure, g.value(&call.Kids[0]), 0, 0)
	}
}
