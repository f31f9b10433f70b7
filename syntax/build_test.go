package syntax

import (
	"strconv"
	"strings"

	"interleave/api"
)

type kids = []api.Node

// node builds a node without a text.
func node(kind int, l ...api.Node) api.Node { return api.Node{Kind: kind, Kids: l} }

// named builds a node with a text.
func named(kind int, text string, l ...api.Node) api.Node {
	return api.Node{Kind: kind, Text: text, Kids: l}
}

func name(text string) api.Node                    { return named(api.NName, text) }
func integer(num int) api.Node                     { return api.Node{Kind: api.NInt, Num: num} }
func boolean(num int) api.Node                     { return api.Node{Kind: api.NBool, Num: num} }
func typed(text string) api.Node                   { return named(api.NType, text) }
func none() api.Node                               { return node(api.NNone) }
func file(l ...api.Node) api.Node                  { return node(api.NFile, l...) }
func block(l ...api.Node) api.Node                 { return node(api.NBlock, l...) }
func receive(n api.Node) api.Node                  { return node(api.NReceive, n) }
func unary(op string, n api.Node) api.Node         { return named(api.NUnary, op, n) }
func binary(op string, a, b api.Node) api.Node     { return named(api.NBinary, op, a, b) }
func call(l ...api.Node) api.Node                  { return node(api.NCall, l...) }
func literal(l ...api.Node) api.Node               { return node(api.NLiteral, block(l...)) }
func printing(n api.Node) api.Node                 { return node(api.NPrint, n) }
func action(n api.Node) api.Node                   { return node(api.NExpr, n) }
func field(text string, kind api.Node) api.Node    { return named(api.NField, text, kind) }
func choice(comm api.Node, l ...api.Node) api.Node { return node(api.NCase, comm, block(l...)) }

// function builds the declaration of the function f, without parameters and results.
func function(l ...api.Node) api.Node {
	return named(api.NFunc, "f", node(api.NParams), none(), block(l...))
}

// within builds a file with statements.
func within(l ...api.Node) api.Node { return file(function(l...)) }

// leaf builds a node of a kind with as few children as possible.
func leaf(kind int) api.Node {
	switch kind {
	case api.NName:
		return name("x")
	case api.NReceive:
		return receive(name("c"))
	}
	return node(kind)
}

// show writes a tree as it appears in messages, with the fields that have a meaning.
func show(n api.Node) string {
	var b strings.Builder
	b.WriteString(strconv.Itoa(n.Kind))
	if n.Text != "" {
		b.WriteString(":" + n.Text)
	}
	if n.Kind == api.NInt || n.Kind == api.NBool {
		b.WriteString("=" + strconv.Itoa(n.Num))
	}
	if len(n.Kids) > 0 {
		b.WriteString("(")
		for _, k := range n.Kids {
			b.WriteString(" " + show(k))
		}
		b.WriteString(" )")
	}
	return b.String()
}

// annotated returns a tree in which all fields without a meaning have values that differ from node to node, and in which the lists
// of children have spare capacity.
func annotated(n api.Node, next *int) api.Node {
	*next++
	n.At, n.Ref, n.Up = *next, *next%4-1, -*next
	n.Type = api.Type{Kind: *next % 13, Name: "T"}
	if n.Kind != api.NInt && n.Kind != api.NBool {
		n.Num = *next * 7
	}
	l := make(kids, 0, len(n.Kids)+2)
	for _, k := range n.Kids {
		l = append(l, annotated(k, next))
	}
	n.Kids = l
	return n
}

// annotate is annotated with a numbering from start.
func annotate(n api.Node, start int) api.Node { return annotated(n, &start) }

// chain returns a tree of this many levels.
func chain(size int) api.Node {
	n := name("x")
	for range size - 1 {
		n = unary("-", n)
	}
	return n
}
