package parse

import (
	"strconv"

	"interleave/api"
)

func (p *parser) expression() api.Node { return p.binary(1) }

// binary reads an expression whose operators outside of parentheses have at least this precedence.
func (p *parser) binary(least int) api.Node {
	x := p.unary()
	for precedence(p.next().Text) >= least {
		op := p.take()
		x = named(api.NBinary, op, op, x, p.binary(precedence(op.Text)+1))
	}
	return x
}

// precedence returns 0 for what is no binary operator.
func precedence(op string) int {
	switch op {
	case "||":
		return 1
	case "&&":
		return 2
	case "==", "!=", "<", "<=", ">", ">=":
		return 3
	case "+", "-":
		return 4
	case "*", "/", "%":
		return 5
	}
	return 0
}

func (p *parser) unary() api.Node {
	switch {
	case p.is("-", "!"):
		op := p.take()
		return named(api.NUnary, op, op, p.unary())
	case p.is("<-"):
		return node(api.NReceive, p.take(), p.unary())
	}
	return p.primary()
}

// primary reads an operand and what follows it: members, indexes and arguments.
func (p *parser) primary() api.Node {
	x := p.operand()
	for {
		switch {
		case p.is("."):
			x = named(api.NMember, p.take(), p.name(), x)
		case p.is("["):
			x = node(api.NIndex, p.take(), x, p.expression())
			p.expect("]")
		case p.is("("):
			open := p.take()
			x = node(api.NCall, open, append([]api.Node{x}, p.list(p.expression)...)...)
		default:
			return x
		}
	}
}

func (p *parser) operand() api.Node {
	first := p.next()
	switch first.Kind {
	case api.TokName:
		return named(api.NName, first, p.take())
	case api.TokInt:
		return integer(p.take())
	}
	switch first.Text {
	case "(":
		return p.enclosed()
	case "true", "false":
		return boolean(p.take())
	case "nil":
		return node(api.NNil, p.take())
	case "new":
		return p.allocated(p.take())
	case "make":
		return p.made(p.take())
	case "len":
		return node(api.NLen, p.take(), p.enclosed())
	case "func":
		return p.literal(p.take())
	}
	panic(api.ErrSyntax)
}

// enclosed reads an expression in parentheses.
func (p *parser) enclosed() api.Node {
	p.expect("(")
	x := p.expression()
	p.expect(")")
	return x
}

func integer(first api.Token) api.Node {
	n := node(api.NInt, first)
	n.Num, _ = strconv.Atoi(first.Text) // layer 2 accepts only what fits
	return n
}

func boolean(first api.Token) api.Node {
	n := node(api.NBool, first)
	if first.Text == "true" {
		n.Num = 1
	}
	return n
}

// allocated reads new(name).
func (p *parser) allocated(first api.Token) api.Node {
	p.expect("(")
	n := named(api.NNew, first, p.name())
	p.expect(")")
	return n
}

// made reads make([]int, size) or make(chan int, size).
func (p *parser) made(first api.Token) api.Node {
	kind := api.NChan
	p.expect("(")
	if p.is("[") {
		kind = api.NSlice
		p.expect("[", "]", "int")
	} else {
		p.expect("chan", "int")
	}
	p.expect(",")
	size := p.expression()
	p.expect(")")
	return node(kind, first, size)
}

func (p *parser) literal(first api.Token) api.Node {
	p.expect("(", ")")
	return node(api.NLiteral, first, p.block())
}
