package compile

import "interleave/api"

func (g *generator) expressionTable() map[int]func(n *api.Node) int {
	return map[int]func(n *api.Node) int{
		api.NInt: g.number, api.NBool: g.number, api.NNil: g.null, api.NName: g.name, api.NMember: g.member, api.NIndex: g.index,
		api.NUnary: g.unary, api.NBinary: g.binary, api.NReceive: g.receive, api.NLen: g.length, api.NNew: g.structure,
		api.NSlice: g.slice, api.NChan: g.makeChannel, api.NLiteral: g.literal, api.NCall: g.call,
	}
}

// value generates the evaluation of an expression, and returns the register of its value: that of a variable, or otherwise the lowest
// one that was not in use. Only this one is taken.
func (g *generator) value(n *api.Node) int { return g.expressions[n.Kind](n) }

// push generates the evaluation of an expression into the lowest register that is not in use, takes it and returns it.
func (g *generator) push(n *api.Node) int {
	register := g.next
	if value := g.value(n); value != register {
		g.emit(n, api.OpMove, g.reuse(register), value, 0)
	}
	return register
}

// result generates an instruction that sets the lowest register that was not in use before its operands were evaluated.
func (g *generator) result(n *api.Node, op, register, b, c int) int {
	g.reuse(register)
	g.emit(n, op, register, b, c)
	return register
}

// number generates an integer or a boolean.
func (g *generator) number(n *api.Node) int { return g.result(n, api.OpConst, g.next, n.Num, 0) }

func (g *generator) null(n *api.Node) int { return g.result(n, api.OpNil, g.next, 0, 0) }

// name generates the value of a variable, or a closure of a function.
func (g *generator) name(n *api.Node) int {
	register := g.next
	switch {
	case n.Ref == api.RefFunc:
		return g.result(n, api.OpClosure, register, g.wrappers[n.Num], 0)
	case g.isRegister(n):
		return g.places[n.Num]
	}
	return g.result(n, api.OpLoad, register, g.cell(n), 0)
}

func (g *generator) member(n *api.Node) int {
	register := g.next
	return g.result(n, api.OpLoad, register, g.field(n, g.value(&n.Kids[0]), register), 0)
}

// field generates the address of a field of the struct to which a register refers.
func (g *generator) field(n *api.Node, x, register int) int {
	offset := g.fields[field{n.Kids[0].Type.Name, n.Text}]
	return g.result(n, api.OpField, register, x, offset)
}

func (g *generator) index(n *api.Node) int {
	register := g.next
	x, i := g.value(&n.Kids[0]), g.value(&n.Kids[1])
	return g.result(n, api.OpLoad, register, g.element(n, x, i, register), 0)
}

// element generates the address of an element of a slice.
func (g *generator) element(n *api.Node, x, i, register int) int {
	return g.result(n, api.OpIndex, register, x, i)
}

func (g *generator) unary(n *api.Node) int {
	op := api.OpNeg
	if n.Text == "!" {
		op = api.OpNot
	}
	return g.operation(n, op)
}

// operation generates an instruction with a result and one operand.
func (g *generator) operation(n *api.Node, op int) int {
	register := g.next
	return g.result(n, op, register, g.value(&n.Kids[0]), 0)
}

func (g *generator) receive(n *api.Node) int {
	register := g.next
	return g.result(n, api.OpRecv, register, g.value(&n.Kids[0]), -1)
}

func (g *generator) length(n *api.Node) int { return g.operation(n, api.OpLen) }

func (g *generator) slice(n *api.Node) int { return g.operation(n, api.OpSlice) }

func (g *generator) makeChannel(n *api.Node) int { return g.operation(n, api.OpChan) }

func (g *generator) structure(n *api.Node) int {
	return g.result(n, api.OpNew, g.next, g.structs[n.Text], 0)
}

func (g *generator) binary(n *api.Node) int {
	if n.Text == "&&" || n.Text == "||" {
		return g.short(n)
	}
	register := g.next
	left, right := g.value(&n.Kids[0]), g.value(&n.Kids[1])
	switch n.Text {
	case ">", ">=":
		left, right = right, left
	}
	return g.result(n, operator(n.Text), register, left, right)
}

// operator returns the operation of a binary operator. Those of > and >= have exchanged operands.
func operator(text string) int {
	switch text {
	case "+":
		return api.OpAdd
	case "-":
		return api.OpSub
	case "*":
		return api.OpMul
	case "/":
		return api.OpDiv
	case "%":
		return api.OpRem
	case "==":
		return api.OpEq
	case "!=":
		return api.OpNe
	case "<", ">":
		return api.OpLt
	}
	return api.OpLe // <= and >=
}

// short generates an operation that evaluates its second operand only if it determines the value.
func (g *generator) short(n *api.Node) int {
	var end target
	register := g.push(&n.Kids[0])
	undecided := register // unless this is 0
	if n.Text == "||" {
		undecided = g.fresh()
		g.emit(n, api.OpNot, undecided, register, 0)
	}
	g.jump(n, api.OpJumpZ, undecided, &end)
	g.next = register
	g.push(&n.Kids[1])
	g.land(end)
	return register
}
