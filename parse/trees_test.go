package parse

import (
	"strings"

	"interleave/api"
)

type kids = []api.Node

const (
	binaryOperators = "|| && == != < <= > >= + - * / %"
	typeTexts       = "int bool []int chan func mutex rwmutex group once atomic"
)

// names are names at the edges of their definition, among them names that are keywords of Go but not here.
var names = []string{"x", "y", "_", "A9", "goto", "returns", "Int", "range", strings.Repeat("n", 32)}

// chooser makes choices that are the same in every run.
type chooser struct{ state uint64 }

// below returns a number from 0 to n-1.
func (c *chooser) below(n int) int {
	c.state = c.state*6364136223846793005 + 1442695040888963407
	return int(c.state>>33) % n
}

func pick[T any](c *chooser, l []T) T { return l[c.below(len(l))] }

// word picks one of the words of a text.
func (c *chooser) word(s string) string { return pick(c, strings.Fields(s)) }

// some returns up to most nodes; without them if size is small.
func (c *chooser) some(most, size int, one func(int) api.Node) []api.Node {
	var l []api.Node
	if size > 0 {
		for range c.below(most + 1) {
			l = append(l, one(size))
		}
	}
	return l
}

// option returns a node, or one that stands for a missing node.
func (c *chooser) option(size int, one func(int) api.Node) api.Node {
	if size <= 0 || c.below(2) == 0 {
		return bare(api.NNone)
	}
	return one(size)
}

func bare(kind int, l ...api.Node) api.Node { return api.Node{Kind: kind, Kids: l} }

func texted(kind int, text string, l ...api.Node) api.Node {
	return api.Node{Kind: kind, Text: text, Kids: l}
}

// file returns a file. Its size limits its levels.
func (c *chooser) file(size int) api.Node { return bare(api.NFile, c.some(4, size, c.declaration)...) }

// files returns files that contain nodes of all kinds.
func files(count, size int) []api.Node {
	c := &chooser{state: uint64(size)}
	var l []api.Node
	for range count {
		l = append(l, c.file(size))
	}
	return l
}

func (c *chooser) declaration(size int) api.Node {
	switch c.below(4) {
	case 0:
		return texted(api.NStruct, pick(c, names), c.some(3, size, c.field)...)
	case 1:
		return texted(api.NVar, pick(c, names), c.valueType(size), bare(api.NNone))
	}
	params := bare(api.NParams, c.some(3, size, c.field)...)
	return texted(api.NFunc, pick(c, names), params, c.option(size, c.valueType), c.block(size))
}

func (c *chooser) field(size int) api.Node {
	return texted(api.NField, pick(c, names), c.valueType(size))
}

func (c *chooser) valueType(int) api.Node {
	if c.below(4) == 0 {
		return texted(api.NPointer, pick(c, names))
	}
	return texted(api.NType, c.word(typeTexts))
}

func (c *chooser) block(size int) api.Node {
	return bare(api.NBlock, c.some(4, size-1, c.statement)...)
}

func (c *chooser) statement(size int) api.Node {
	x := func() api.Node { return c.expression(size - 1) }
	switch c.below(17) {
	case 0:
		return texted(api.NVar, pick(c, names), c.valueType(size), c.option(size, c.expression))
	case 1:
		return texted(api.NDefine, pick(c, names), x())
	case 2:
		return bare(api.NAssign, x(), x())
	case 3:
		return bare(api.NSend, x(), x())
	case 4, 5:
		return bare(api.NExpr, c.call(size-1))
	case 6:
		return bare(api.NExpr, bare(api.NReceive, x()))
	case 7:
		return bare(api.NGo, c.call(size-1))
	case 8:
		return bare(api.NDefer, c.call(size-1))
	case 9:
		return bare(api.NClose, x())
	case 10:
		return bare(api.NPrint, x())
	case 11, 12:
		return c.conditional(size - 1)
	case 13:
		return bare(api.NFor, c.option(size-1, c.expression), c.block(size-1))
	case 14:
		return bare(api.NReturn, c.some(1, size-1, c.expression)...)
	case 15:
		return bare(api.NSelect, c.some(4, size-1, c.alternative)...)
	}
	return c.block(size - 1)
}

func (c *chooser) conditional(size int) api.Node {
	condition, then := c.expression(size), c.block(size)
	switch {
	case size <= 0 || c.below(3) == 0:
		return bare(api.NIf, condition, then, bare(api.NNone))
	case c.below(2) == 0:
		return bare(api.NIf, condition, then, c.block(size))
	}
	return bare(api.NIf, condition, then, c.conditional(size-1))
}

func (c *chooser) alternative(size int) api.Node {
	received := bare(api.NReceive, c.expression(size-2))
	comm := bare(api.NNone)
	switch c.below(5) {
	case 0:
		comm = bare(api.NSend, c.expression(size-1), c.expression(size-1))
	case 1:
		comm = bare(api.NExpr, received)
	case 2:
		comm = bare(api.NAssign, c.expression(size-1), received)
	case 3:
		comm = texted(api.NDefine, pick(c, names), received)
	}
	return bare(api.NCase, comm, c.block(size-1))
}

func (c *chooser) call(size int) api.Node {
	return bare(api.NCall, append(kids{c.expression(size - 1)}, c.some(3, size-1, c.expression)...)...)
}

func (c *chooser) expression(size int) api.Node {
	x := func() api.Node { return c.expression(size - 1) }
	kind := c.below(20)
	if size <= 0 {
		kind = 13 + kind%5
	}
	switch kind {
	case 0, 1, 2:
		return texted(api.NBinary, c.word(binaryOperators), x(), x())
	case 3, 4:
		return texted(api.NUnary, c.word("- !"), x())
	case 5, 6:
		return bare(api.NReceive, x())
	case 7:
		return c.call(size)
	case 8:
		return texted(api.NMember, pick(c, names), x())
	case 9:
		return bare(api.NIndex, x(), x())
	case 10:
		return bare(api.NSlice, x())
	case 11:
		return bare(api.NChan, x())
	case 12:
		return bare(api.NLen, x())
	case 13:
		return api.Node{Kind: api.NInt, Num: pick(c, []int{0, 1, 10, 1<<63 - 1})}
	case 14:
		return api.Node{Kind: api.NBool, Num: c.below(2)}
	case 15:
		return bare(api.NNil)
	case 16:
		return texted(api.NNew, pick(c, names))
	case 18:
		return bare(api.NLiteral, c.block(size-1))
	}
	return texted(api.NName, pick(c, names))
}
