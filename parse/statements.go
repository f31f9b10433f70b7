package parse

import (
	"slices"

	"interleave/api"
)

// table returns the methods for the statements that have a first word of their own. They begin behind this word.
func (p *parser) table() map[string]func(api.Token) api.Node {
	return map[string]func(api.Token) api.Node{
		"var":    p.local,
		"go":     single(api.NGo, p.call),
		"defer":  single(api.NDefer, p.call),
		"close":  single(api.NClose, p.enclosed),
		"print":  single(api.NPrint, p.enclosed),
		"if":     p.conditional,
		"for":    p.loop,
		"return": p.returning,
		"select": p.choice,
		"{":      p.body,
	}
}

// single returns the method for statements with one child.
func single(kind int, child func() api.Node) func(api.Token) api.Node {
	return func(first api.Token) api.Node { return node(kind, first, child()) }
}

func (p *parser) statement() api.Node {
	if read, found := p.statements[p.next().Text]; found {
		return read(p.take())
	}
	return p.simple(p.expression, api.NCall, api.NReceive)
}

// simple reads a definition, an assignment, a send or an expression that stands alone. The value of the first two is read by a
// method; an expression alone is of one of the kinds.
func (p *parser) simple(value func() api.Node, alone ...int) api.Node {
	first := p.next()
	if first.Kind == api.TokName && p.look(1).Text == ":=" {
		p.take()
		p.take()
		return named(api.NDefine, first, first, value())
	}
	x := p.expression()
	switch {
	case p.is("="):
		return node(api.NAssign, p.take(), x, value())
	case p.is("<-"):
		return node(api.NSend, p.take(), x, p.expression())
	case slices.Contains(alone, x.Kind):
		return node(api.NExpr, first, x)
	}
	panic(api.ErrSyntax)
}

func (p *parser) local(first api.Token) api.Node {
	n := named(api.NVar, first, p.name(), p.valueType())
	value := none()
	if p.accept("=") {
		value = p.expression()
	}
	n.Kids = append(n.Kids, value)
	return n
}

// call reads what a go or defer statement starts.
func (p *parser) call() api.Node {
	x := p.primary()
	if x.Kind != api.NCall {
		panic(api.ErrSyntax)
	}
	return x
}

func (p *parser) block() api.Node { return p.body(p.expect("{")) }

// body reads a block behind its first brace.
func (p *parser) body(first api.Token) api.Node {
	l := p.lines(p.statement, "}")
	p.expect("}")
	return node(api.NBlock, first, l...)
}

func (p *parser) conditional(first api.Token) api.Node {
	return node(api.NIf, first, p.expression(), p.block(), p.otherwise())
}

// otherwise reads the rest of an if statement, behind its first block.
func (p *parser) otherwise() api.Node {
	switch {
	case !p.accept("else"):
		return none()
	case p.is("if"):
		return p.conditional(p.take())
	}
	return p.block()
}

func (p *parser) loop(first api.Token) api.Node {
	condition := none()
	if !p.is("{") {
		condition = p.expression()
	}
	return node(api.NFor, first, condition, p.block())
}

func (p *parser) returning(first api.Token) api.Node {
	n := node(api.NReturn, first)
	if !p.is(";", "}") {
		n.Kids = append(n.Kids, p.expression())
	}
	return n
}

func (p *parser) choice(first api.Token) api.Node {
	n := node(api.NSelect, first)
	p.expect("{")
	for !p.accept("}") {
		n.Kids = append(n.Kids, p.alternative())
	}
	return n
}

// alternative reads a case of a select statement.
func (p *parser) alternative() api.Node {
	first, communication := p.next(), p.communication()
	colon := p.expect(":")
	body := p.lines(p.statement, "case", "default", "}")
	return node(api.NCase, first, communication, node(api.NBlock, colon, body...))
}

// communication reads a case up to its colon.
func (p *parser) communication() api.Node {
	if p.accept("default") {
		return none()
	}
	p.expect("case")
	return p.simple(p.received, api.NReceive)
}

// received reads the value of a definition or an assignment that begins a case.
func (p *parser) received() api.Node {
	if !p.is("<-") {
		panic(api.ErrSyntax)
	}
	return p.unary()
}
