package fold

import (
	"math"
	"slices"
	"strings"

	"interleave/api"
	"interleave/syntax"
)

const (
	binaryOperators = "|| && == != < <= > >= + - * / %"
	typeTexts       = "int bool []int chan func mutex rwmutex group once atomic"
)

var names = strings.Fields("x y f T")

// numbers are the numbers of random files: small ones, so that quotients, remainders and conditions have all kinds of results, and
// large ones.
var numbers = []int{0, 0, 1, 1, 1, 2, 3, 7, 10, 1 << 31, 3037000500, 1 << 62, math.MaxInt - 1, math.MaxInt}

// some returns up to most nodes; without them if size is small.
func (c *chooser) some(most, size int, one func(int) api.Node) []api.Node {
	var l []api.Node
	if size > 0 {
		for range c.below(most + 1) {
			l = append(l, one(size))
		}
	}
	return l
}

// option returns a node, or one that stands for a missing node.
func (c *chooser) option(size int, one func(int) api.Node) api.Node {
	if size <= 0 || c.below(2) == 0 {
		return none()
	}
	return one(size)
}

// file returns a file. Its size limits its levels.
func (c *chooser) file(size int) api.Node { return bare(api.NFile, c.some(4, size, c.declaration)...) }

// files returns files that contain nodes of all kinds and many constant expressions. They need not follow the rules of layer 6.
func files(count, size int) []api.Node {
	c := &chooser{state: uint64(size)}
	var l []api.Node
	for range count {
		l = append(l, c.file(size))
	}
	return l
}

func (c *chooser) declaration(size int) api.Node {
	switch c.below(5) {
	case 0:
		return texted(api.NStruct, pick(c, names), c.some(3, size, c.field)...)
	case 1:
		return texted(api.NVar, pick(c, names), c.valueType(size), none())
	}
	params := bare(api.NParams, c.some(3, size, c.field)...)
	return texted(api.NFunc, pick(c, names), params, c.option(size, c.valueType), c.block(size))
}

func (c *chooser) field(size int) api.Node {
	return texted(api.NField, pick(c, names), c.valueType(size))
}

func (c *chooser) valueType(int) api.Node {
	if c.below(4) == 0 {
		return texted(api.NPointer, pick(c, names))
	}
	return texted(api.NType, c.word(typeTexts))
}

func (c *chooser) block(size int) api.Node { return block(c.some(4, size-1, c.statement)...) }

func (c *chooser) statement(size int) api.Node {
	x := func() api.Node { return c.expression(size - 1) }
	switch c.below(17) {
	case 0:
		return texted(api.NVar, pick(c, names), c.valueType(size), c.option(size, c.expression))
	case 1:
		return texted(api.NDefine, pick(c, names), x())
	case 2:
		return bare(api.NAssign, x(), x())
	case 3:
		return bare(api.NSend, x(), x())
	case 4:
		return bare(pick(c, []int{api.NExpr, api.NGo, api.NDefer}), c.call(size-1))
	case 5:
		return bare(api.NExpr, bare(api.NReceive, x()))
	case 6:
		return bare(pick(c, []int{api.NClose, api.NPrint}), x())
	case 7, 8, 9, 10, 11:
		return c.conditional(size - 1)
	case 12:
		return bare(api.NFor, c.option(size-1, c.expression), c.block(size-1))
	case 13:
		return bare(api.NReturn, c.some(1, size-1, c.expression)...)
	case 14:
		return bare(api.NSelect, c.some(4, size-1, c.alternative)...)
	}
	return c.block(size - 1)
}

func (c *chooser) conditional(size int) api.Node {
	condition, then := c.expression(size-1), c.block(size)
	if c.below(2) == 0 {
		condition = pick(c, []api.Node{c.boolean(size - 1), truth(c.below(2)), c.integer(size - 1)})
	}
	switch {
	case size <= 0 || c.below(3) == 0:
		return branch(condition, then, none())
	case c.below(2) == 0:
		return branch(condition, then, c.block(size))
	}
	return branch(condition, then, c.conditional(size-1))
}

func (c *chooser) alternative(size int) api.Node {
	received := bare(api.NReceive, c.expression(size-2))
	comm := none()
	switch c.below(5) {
	case 0:
		comm = bare(api.NSend, c.expression(size-1), c.expression(size-1))
	case 1:
		comm = bare(api.NExpr, received)
	case 2:
		comm = bare(api.NAssign, c.expression(size-1), received)
	case 3:
		comm = texted(api.NDefine, pick(c, names), received)
	}
	return bare(api.NCase, comm, c.block(size-1))
}

func (c *chooser) call(size int) api.Node {
	return bare(api.NCall, append(kids{c.expression(size - 1)}, c.some(3, size-1, c.expression)...)...)
}

// expression returns an expression whose operators may have operands of any types.
func (c *chooser) expression(size int) api.Node {
	x := func() api.Node { return c.expression(size - 1) }
	kind := c.below(30)
	if size <= 0 {
		kind = kind % 6
	}
	switch kind {
	case 0:
		return bare(api.NNil)
	case 1:
		return texted(api.NNew, pick(c, names))
	case 2:
		return name(pick(c, names))
	case 3, 4:
		return digits(pick(c, numbers))
	case 5:
		return truth(c.below(2))
	case 6, 7, 8:
		return op(c.word(binaryOperators), x(), x())
	case 9, 10:
		return texted(api.NUnary, c.word("- !"), x())
	case 11, 12:
		return bare(pick(c, []int{api.NReceive, api.NSlice, api.NChan, api.NLen}), x())
	case 13:
		return c.call(size)
	case 14:
		return texted(api.NMember, pick(c, names), x())
	case 15:
		return bare(api.NIndex, x(), x())
	case 16:
		return bare(api.NLiteral, c.block(size-1))
	}
	if kind < 24 {
		return c.integer(size)
	}
	return c.boolean(size)
}

// integer returns an expression that is an integer constant, unless it divides by 0.
func (c *chooser) integer(size int) api.Node {
	kind := c.below(8)
	switch {
	case kind == 0:
		return number(math.MinInt)
	case kind == 1 || size <= 0:
		return number(pick(c, numbers) * (1 - 2*c.below(2)))
	case kind < 4:
		return minus(c.integer(size - 1))
	}
	return op(c.word("+ - * / %"), c.integer(size-1), c.integer(size-1))
}

// boolean returns an expression that is a boolean constant, unless it divides by 0.
func (c *chooser) boolean(size int) api.Node {
	if size <= 0 {
		return truth(c.below(2))
	}
	switch c.below(4) {
	case 0:
		return not(c.boolean(size - 1))
	case 1:
		return op(c.word("&& || == !="), c.boolean(size-1), c.boolean(size-1))
	}
	return op(c.word("== != < <= > >="), c.integer(size-1), c.integer(size-1))
}

// changed returns a tree with one node changed. Not every result is a file, or an expression.
func changed(n api.Node, c *chooser) api.Node {
	at, all := c.below(syntax.Count(n)), slices.Collect(syntax.Walk(n))
	var change func(n api.Node) api.Node
	change = func(n api.Node) api.Node {
		if at--; at == -1 {
			return altered(n, pick(c, all), c)
		}
		n.Kids = slices.Clone(n.Kids)
		for i, k := range n.Kids {
			n.Kids[i] = change(k)
		}
		return n
	}
	return change(n)
}

// altered returns a node with another field, with other children, or another node.
func altered(n, other api.Node, c *chooser) api.Node {
	l := slices.Clone(n.Kids)
	i := c.below(len(l) + 1)
	switch c.below(7) {
	case 0:
		n.Kind = pick(c, []int{api.NInt, api.NBool, api.NUnary, api.NBinary, c.below(api.NLiteral+3) - 1})
	case 1:
		n.Text = c.word(binaryOperators + " ! & x 1 true nil")
	case 2:
		n.Num = pick(c, []int{-1, 0, 1, 2, math.MaxInt, math.MinInt})
	case 3:
		n.Kids = slices.Insert(l, i, other)
	case 4:
		if i < len(l) {
			n.Kids = slices.Delete(l, i, i+1)
		}
	case 5:
		n.Text = ""
	default:
		return other
	}
	return n
}
