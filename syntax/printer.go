package syntax

import (
	"slices"
	"strconv"
	"strings"

	"interleave/api"
)

// printer collects the text of a file. tabs is the number of tabs at the beginning of the line that it prints.
type printer struct {
	text strings.Builder
	tabs int
}

func (p *printer) write(words ...string) {
	for _, w := range words {
		p.text.WriteString(w)
	}
}

// indent begins a line.
func (p *printer) indent() { p.write(strings.Repeat("\t", p.tabs)) }

// list prints nodes with a comma between each two.
func (p *printer) list(l []api.Node, each func(api.Node)) {
	for i, n := range l {
		if i > 0 {
			p.write(", ")
		}
		each(n)
	}
}

// lines prints each node on a line of its own, with one more tab.
func (p *printer) lines(l []api.Node, each func(api.Node)) {
	p.tabs++
	for _, n := range l {
		p.indent()
		each(n)
		p.write("\n")
	}
	p.tabs--
}

// braces prints lines between braces.
func (p *printer) braces(l []api.Node, each func(api.Node)) {
	p.write("{\n")
	p.lines(l, each)
	p.indent()
	p.write("}")
}

func (p *printer) block(n api.Node) { p.braces(n.Kids, p.statement) }

func (p *printer) file(n api.Node) {
	for _, d := range n.Kids {
		p.declaration(d)
		p.write("\n")
	}
}

func (p *printer) declaration(n api.Node) {
	switch n.Kind {
	case api.NStruct:
		p.write("type ", n.Text, " struct ")
		p.braces(n.Kids, p.field)
	case api.NVar:
		p.variable(n)
	case api.NFunc:
		p.function(n)
	}
}

func (p *printer) function(n api.Node) {
	params, result, body := n.Kids[0], n.Kids[1], n.Kids[2]
	p.write("func ", n.Text, "(")
	p.list(params.Kids, p.field)
	p.write(") ")
	if result.Kind != api.NNone {
		p.write(typeText(result), " ")
	}
	p.block(body)
}

// field prints a field or a parameter.
func (p *printer) field(n api.Node) { p.write(n.Text, " ", typeText(n.Kids[0])) }

func (p *printer) variable(n api.Node) {
	p.write("var ", n.Text, " ", typeText(n.Kids[0]))
	if value := n.Kids[1]; value.Kind != api.NNone {
		p.around(" = ", value, "")
	}
}

func typeText(n api.Node) string {
	switch {
	case n.Kind == api.NPointer:
		return "*" + n.Text
	case n.Text == "chan":
		return "chan int"
	case n.Text == "func":
		return "func()"
	}
	return n.Text
}

func (p *printer) statement(n api.Node) {
	switch n.Kind {
	case api.NVar:
		p.variable(n)
	case api.NBlock:
		p.block(n)
	case api.NDefine:
		p.around(n.Text+" := ", n.Kids[0], "")
	case api.NAssign:
		p.between(n.Kids[0], " = ", n.Kids[1])
	case api.NExpr:
		p.expression(n.Kids[0])
	case api.NGo:
		p.around("go ", n.Kids[0], "")
	case api.NDefer:
		p.around("defer ", n.Kids[0], "")
	case api.NSend:
		p.between(n.Kids[0], " <- ", n.Kids[1])
	case api.NClose:
		p.around("close(", n.Kids[0], ")")
	case api.NPrint:
		p.around("print(", n.Kids[0], ")")
	case api.NIf:
		p.conditional(n)
	case api.NFor:
		p.loop(n)
	case api.NReturn:
		p.result(n)
	case api.NSelect:
		p.choice(n)
	}
}

// around prints an expression between two texts.
func (p *printer) around(before string, n api.Node, after string) {
	p.write(before)
	p.expression(n)
	p.write(after)
}

// between prints a text between two expressions.
func (p *printer) between(a api.Node, text string, b api.Node) {
	p.expression(a)
	p.around(text, b, "")
}

func (p *printer) conditional(n api.Node) {
	p.around("if ", n.Kids[0], " ")
	p.block(n.Kids[1])
	if otherwise := n.Kids[2]; otherwise.Kind != api.NNone {
		p.write(" else ")
		p.statement(otherwise)
	}
}

func (p *printer) loop(n api.Node) {
	p.write("for ")
	if condition := n.Kids[0]; condition.Kind != api.NNone {
		p.around("", condition, " ")
	}
	p.block(n.Kids[1])
}

func (p *printer) result(n api.Node) {
	p.write("return")
	for _, value := range n.Kids {
		p.around(" ", value, "")
	}
}

// choice prints a select statement. Its cases have its own tabs.
func (p *printer) choice(n api.Node) {
	p.write("select {\n")
	for _, c := range n.Kids {
		p.indent()
		p.communication(c.Kids[0])
		p.write(":\n")
		p.lines(c.Kids[1].Kids, p.statement)
	}
	p.indent()
	p.write("}")
}

// communication prints how a case begins.
func (p *printer) communication(n api.Node) {
	if n.Kind == api.NNone {
		p.write("default")
		return
	}
	p.write("case ")
	p.statement(n)
}

func (p *printer) expression(n api.Node) {
	switch n.Kind {
	case api.NMember:
		p.primary(n.Kids[0])
		p.write(".", n.Text)
	case api.NIndex:
		p.primary(n.Kids[0])
		p.around("[", n.Kids[1], "]")
	case api.NCall:
		p.primary(n.Kids[0])
		p.write("(")
		p.list(n.Kids[1:], p.expression)
		p.write(")")
	case api.NUnary:
		p.write(n.Text)
		p.operand(n.Kids[0])
	case api.NReceive:
		p.write("<-")
		p.operand(n.Kids[0])
	case api.NBinary:
		p.operand(n.Kids[0])
		p.write(" ", n.Text, " ")
		p.operand(n.Kids[1])
	case api.NInt:
		p.write(strconv.Itoa(n.Num))
	case api.NBool:
		p.write(strconv.FormatBool(n.Num == 1))
	case api.NNil:
		p.write("nil")
	case api.NName:
		p.write(n.Text)
	case api.NNew:
		p.write("new(", n.Text, ")")
	case api.NSlice:
		p.around("make([]int, ", n.Kids[0], ")")
	case api.NChan:
		p.around("make(chan int, ", n.Kids[0], ")")
	case api.NLen:
		p.around("len(", n.Kids[0], ")")
	case api.NLiteral:
		p.write("func() ")
		p.block(n.Kids[0])
	}
}

// primary prints an expression that a member, an index or arguments follow.
func (p *printer) primary(n api.Node) { p.enclosed(n, api.NBinary, api.NUnary, api.NReceive) }

// operand prints an operand of an operator.
func (p *printer) operand(n api.Node) { p.enclosed(n, api.NBinary) }

// enclosed prints an expression, in parentheses if it is of one of these kinds.
func (p *printer) enclosed(n api.Node, kinds ...int) {
	if slices.Contains(kinds, n.Kind) {
		p.around("(", n, ")")
		return
	}
	p.expression(n)
}
