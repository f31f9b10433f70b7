package fold

import (
	"math"
	"slices"
	"strconv"
	"strings"
	"testing"

	"interleave/api"
	"interleave/parse"
)

type kids = []api.Node

// bare builds a node without a text.
func bare(kind int, l ...api.Node) api.Node { return api.Node{Kind: kind, Kids: l} }

// texted builds a node with a text.
func texted(kind int, text string, l ...api.Node) api.Node {
	return api.Node{Kind: kind, Text: text, Kids: l}
}

func none() api.Node                      { return bare(api.NNone) }
func name(text string) api.Node           { return texted(api.NName, text) }
func digits(num int) api.Node             { return api.Node{Kind: api.NInt, Num: num} }
func truth(num int) api.Node              { return api.Node{Kind: api.NBool, Num: num} }
func minus(a api.Node) api.Node           { return texted(api.NUnary, "-", a) }
func not(a api.Node) api.Node             { return texted(api.NUnary, "!", a) }
func op(s string, a, b api.Node) api.Node { return texted(api.NBinary, s, a, b) }
func block(l ...api.Node) api.Node        { return bare(api.NBlock, l...) }
func branch(a, b, c api.Node) api.Node    { return bare(api.NIf, a, b, c) }
func function(statements kids) api.Node {
	return texted(api.NFunc, "f", bare(api.NParams), none(), block(statements...))
}
func fileOf(statements ...api.Node) api.Node { return bare(api.NFile, function(statements)) }

// number returns an expression with this value.
func number(v int) api.Node {
	switch {
	case v == math.MinInt:
		return op("-", minus(digits(math.MaxInt)), digits(1))
	case v < 0:
		return minus(digits(-v))
	}
	return digits(v)
}

// parsed returns the tree of a text.
func parsed(t *testing.T, s string) api.Node {
	t.Helper()
	n, at, e := parse.Parse(s)
	if e != api.OK {
		t.Fatalf("%q: %d %v", s, at, e)
	}
	return n
}

// expression returns the tree of an expression, in which the offset 0 is that of its first byte.
func expression(t *testing.T, s string) api.Node {
	t.Helper()
	const before = "func f() { x = "
	var moved func(n api.Node) api.Node
	moved = func(n api.Node) api.Node {
		n.At -= len(before)
		for i, k := range n.Kids {
			n.Kids[i] = moved(k)
		}
		return n
	}
	return moved(parsed(t, before+s+" }").Kids[0].Kids[2].Kids[0].Kids[1])
}

// numbered returns a tree in which every node has an offset of its own, and in which what has no meaning has values that differ from
// node to node.
func numbered(n api.Node) api.Node {
	next := 0
	var mark func(n api.Node) api.Node
	mark = func(n api.Node) api.Node {
		next++
		n.At, n.Ref, n.Up = next*37%1009*1009+next, next%5-1, next%3-1
		n.Type = api.Type{Kind: next % 14, Name: "T"}
		if n.Kind != api.NInt && n.Kind != api.NBool {
			n.Num = next%7 - 3
		}
		n.Kids = slices.Clone(n.Kids)
		for i, k := range n.Kids {
			n.Kids[i] = mark(k)
		}
		return n
	}
	return mark(n)
}

// same reports whether two trees are the same in all fields.
func same(a, b api.Node) bool {
	fields := a.Kind == b.Kind && a.Text == b.Text && a.Num == b.Num && a.At == b.At && a.Type == b.Type && a.Ref == b.Ref && a.Up == b.Up
	return fields && slices.EqualFunc(a.Kids, b.Kids, same)
}

// show writes a tree as it appears in messages, with its offsets.
func show(n api.Node) string {
	s := kindNames[max(0, min(n.Kind, len(kindNames)-1))] + " " + n.Text + strconv.Itoa(n.Num) + "@" + strconv.Itoa(n.At)
	for _, k := range n.Kids {
		s += " " + show(k)
	}
	return "(" + s + ")"
}

var kindNames = strings.Fields("? file struct field func params var type pointer none block define assign expr go defer send close if for return print select case int bool nil name member index call unary binary receive new slice chan len literal")

// chooser makes choices that are the same in every run.
type chooser struct{ state uint64 }

// below returns a number from 0 to n-1.
func (c *chooser) below(n int) int {
	c.state = c.state*6364136223846793005 + 1442695040888963407
	return int(c.state>>33) % n
}

func pick[T any](c *chooser, l []T) T { return l[c.below(len(l))] }

// word picks one of the words of a text.
func (c *chooser) word(s string) string { return pick(c, strings.Fields(s)) }
