package compile

import "interleave/api"

// generator generates the code of a function. The registers of parameters and variables come first, and those of values that are
// still needed follow, the later ones above the earlier ones.
type generator struct {
	*tables
	variables
	expressions map[int]func(n *api.Node) int // by kinds of nodes; they return the register of the value
	statements  map[int]func(n *api.Node)
	code        []api.Instr
	next        int // the lowest register that is not in use, with all registers above it
	regs        int
}

// generate returns the code of a function, which may have any number of registers and instructions.
func generate(t *tables, f function) api.Func {
	g := &generator{tables: t, variables: newVariables(f), next: f.params, regs: f.params}
	g.expressions, g.statements = g.expressionTable(), g.statementTable()
	f.body(g)
	g.emit(f.node, api.OpReturn, -1, 0, 0)
	return api.Func{Name: f.name, Params: f.params, Regs: g.regs, Code: g.code}
}

// emit adds an instruction of a node.
func (g *generator) emit(n *api.Node, op, a, b, c int) {
	g.code = append(g.code, api.Instr{Op: op, A: a, B: b, C: c, At: max(n.At, 0)})
}

// fresh takes a register.
func (g *generator) fresh() int {
	g.next++
	g.regs = max(g.regs, g.next)
	return g.next - 1
}

// reuse gives up the registers from one on, and takes this one.
func (g *generator) reuse(from int) int {
	g.next = from
	return g.fresh()
}

// target is a place in the code that is not known yet: what remains to be done for the jumps to it.
type target []func(pc int)

// jump adds a jump to a target; a is the operand of a conditional one.
func (g *generator) jump(n *api.Node, op, a int, to *target) {
	at := len(g.code)
	g.emit(n, op, a, 0, 0)
	*to = append(*to, func(pc int) { g.code[at].C = pc })
}

// land makes the next instruction a target.
func (g *generator) land(t target) {
	for _, patch := range t {
		patch(len(g.code))
	}
}

// declaration generates the body of a function that the file declares.
func (g *generator) declaration(n *api.Node) {
	for i := range n.Kids[0].Kids {
		g.declare(&n.Kids[0].Kids[i], func() int { return i })
	}
	g.block(&n.Kids[2])
}

// method generates the body of an inner function that performs a method on captured values.
func (g *generator) method(call *api.Node) {
	address := g.next
	for i := range call.Kids {
		g.emit(call, api.OpCap, g.fresh(), i, 0)
	}
	g.perform(call, address, g.fresh())
}
