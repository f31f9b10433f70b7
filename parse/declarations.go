package parse

import "interleave/api"

// file reads all tokens.
func (p *parser) file() api.Node {
	f := api.Node{Kind: api.NFile}
	for !p.ended() {
		f.Kids = append(f.Kids, p.declaration())
		if !p.ended() {
			p.expect(";")
		}
	}
	return f
}

func (p *parser) declaration() api.Node {
	switch p.next().Text {
	case "type":
		return p.structure(p.take())
	case "var":
		return p.global(p.take())
	case "func":
		return p.function(p.take())
	}
	panic(api.ErrSyntax)
}

func (p *parser) structure(first api.Token) api.Node {
	name := p.name()
	p.expect("struct", "{")
	fields := p.lines(p.field, "}")
	p.expect("}")
	return named(api.NStruct, first, name, fields...)
}

// field reads a field or a parameter.
func (p *parser) field() api.Node {
	name := p.name()
	return named(api.NField, name, name, p.valueType())
}

func (p *parser) global(first api.Token) api.Node {
	return named(api.NVar, first, p.name(), p.valueType(), none())
}

func (p *parser) function(first api.Token) api.Node {
	return named(api.NFunc, first, p.name(), p.params(), p.result(), p.block())
}

func (p *parser) params() api.Node {
	first := p.expect("(")
	return node(api.NParams, first, p.list(p.field)...)
}

// result reads the type of the result of a function, if it has one.
func (p *parser) result() api.Node {
	if p.is("{") {
		return none()
	}
	return p.valueType()
}

func (p *parser) valueType() api.Node {
	first := p.next()
	n := named(api.NType, first, first)
	switch first.Text {
	case "int", "bool", "mutex", "rwmutex", "group", "once", "atomic":
		p.take()
	case "*":
		p.take()
		return named(api.NPointer, first, p.name())
	case "[":
		p.expect("[", "]", "int")
		n.Text = "[]int"
	case "chan":
		p.expect("chan", "int")
	case "func":
		p.expect("func", "(", ")")
	default:
		panic(api.ErrSyntax)
	}
	return n
}
