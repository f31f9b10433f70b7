package compile

import "interleave/api"

// choice generates a select statement. The results of the instruction share registers with its operands, so that the evaluation of
// the operands does not need others besides.
func (g *generator) choice(n *api.Node) {
	received := g.next
	alternatives := communications(n)
	cases := make([]api.Instr, len(alternatives))
	for i, c := range alternatives {
		cases[i] = g.communication(c, received)
	}
	chosen := g.reuse(received + 1)
	hasDefault := 0
	for i := range n.Kids {
		if c := &n.Kids[i]; c.Kids[0].Kind == api.NNone {
			hasDefault = 1
			alternatives = append(alternatives, c)
		}
	}
	g.emit(n, api.OpSelect, chosen, len(cases), hasDefault)
	g.code = append(g.code, cases...)
	g.branches(alternatives, received, chosen)
}

// communication generates the evaluation of the operands of a case, and returns its instruction.
func (g *generator) communication(n *api.Node, received int) api.Instr {
	c := api.Instr{Op: api.OpCase, C: received, At: max(n.At, 0)}
	switch comm := &n.Kids[0]; comm.Kind {
	case api.NSend:
		c.A, c.B, c.C = g.value(&comm.Kids[0]), 1, g.value(&comm.Kids[1])
	case api.NExpr:
		c.A, c.C = g.channel(&comm.Kids[0]), -1
	case api.NDefine:
		c.A = g.channel(&comm.Kids[0])
	case api.NAssign:
		c.A = g.channel(&comm.Kids[1])
	}
	return c
}

// channel generates the evaluation of the channel from which an NReceive receives.
func (g *generator) channel(n *api.Node) int { return g.value(&n.Kids[0]) }

// branches generates the alternatives of a select statement. Each of them is chosen by its number.
func (g *generator) branches(alternatives []*api.Node, received, chosen int) {
	var end target
	for i, c := range alternatives {
		var other target
		isLast := i == len(alternatives)-1
		if !isLast {
			g.next = chosen + 1
			number := g.fresh()
			g.emit(c, api.OpConst, number, i, 0)
			g.emit(c, api.OpEq, number, chosen, number)
			g.jump(c, api.OpJumpZ, number, &other)
		}
		g.next = received
		g.branch(c)
		if !isLast {
			g.jump(c, api.OpJump, 0, &end)
		}
		g.land(other)
	}
	g.land(end)
}

// branch generates a chosen case. The received value, if there is one, is in the next register.
func (g *generator) branch(n *api.Node) {
	received := g.next
	switch comm := &n.Kids[0]; comm.Kind {
	case api.NDefine:
		g.declare(comm, g.fresh)
	case api.NAssign:
		g.fresh()
		g.assignable(&comm.Kids[0])(received)
		g.next = received
	}
	g.block(&n.Kids[1])
}
