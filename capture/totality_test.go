package capture

import (
	"math"
	"slices"
	"testing"

	"interleave/api"
	"interleave/syntax"
)

// changed returns a tree with one change at a random place: in one field, or in the list of children.
func changed(n api.Node, c *chooser) api.Node {
	at := c.below(syntax.Count(n))
	var search func(n api.Node) api.Node
	search = func(n api.Node) api.Node {
		if at == 0 {
			n = damaged(n, c)
		}
		at--
		n.Kids = slices.Clone(n.Kids)
		for i, k := range n.Kids {
			n.Kids[i] = search(k)
		}
		return n
	}
	return search(n)
}

func damaged(n api.Node, c *chooser) api.Node {
	numbers := []int{-1, 0, 1, 2, 3, 1 << 20, math.MaxInt, math.MinInt}
	switch c.below(8) {
	case 0:
		n.Kind = c.below(api.NLiteral+3) - 1
	case 1:
		n.Text = pick(c, []string{"", "x", "+", "func", "int", "\xff"})
	case 2:
		n.Num = pick(c, numbers)
	case 3:
		n.Ref = pick(c, numbers)
	case 4:
		n.Up = pick(c, numbers)
	case 5:
		n.Type = api.Type{Kind: pick(c, numbers), Name: "x"}
	case 6:
		n.Kids = n.Kids[:c.below(len(n.Kids)+1)]
	case 7:
		n.Kids = slices.Concat(n.Kids, []api.Node{pick(c, append(n.Kids, n))})
	}
	return n
}

// call calls all functions.
func call(n api.Node) {
	Locals(n)
	Captures(n)
	Literals(n)
}

// P1: every call ends, also for nodes that layer 6 would not return.
func TestChangedNodes(t *testing.T) {
	c := &chooser{state: 3}
	for _, f := range files(t, 40, 3) {
		for range 20 {
			f = changed(f, c)
			for n := range syntax.Walk(f) {
				call(n)
			}
		}
	}
}

// malformed returns functions that no file contains, because nodes are missing or wrong.
func malformed() []api.Node {
	field, integer, empty := node(api.NField, "a", node(api.NType, "int")), node(api.NInt, ""), node(api.NBlock, "")
	function := func(params []api.Node, statements ...api.Node) api.Node {
		return node(api.NFunc, "f", node(api.NParams, "", params...), node(api.NNone, ""), node(api.NBlock, "", statements...))
	}
	l := []api.Node{
		node(api.NFunc, ""), node(api.NFunc, "f"), node(api.NFunc, "f", node(api.NParams, "", field)), node(api.NFunc, "f", field, field, field),
		node(api.NFunc, "f", empty), node(api.NFunc, "", node(api.NParams, ""), node(api.NNone, ""), empty),
		function([]api.Node{node(api.NField, "a")}), function([]api.Node{field, node(api.NField, "b", integer)}), function([]api.Node{field, {}}),
		node(api.NLiteral, ""), node(api.NLiteral, "", integer), node(api.NLiteral, "", empty, empty), node(api.NLiteral, "f", empty), node(api.NLiteral, "", field),
	}
	define := node(api.NDefine, "x", integer)
	for _, n := range []api.Node{{}, field, integer, node(api.NDefine, "x"), node(api.NVar, "x"), node(api.NVar, "x", node(api.NType, "int")), node(api.NDefine, "x", node(api.NLiteral, ""))} {
		l = append(l, function(nil, define, n), node(api.NLiteral, "", node(api.NBlock, "", define, n)))
	}
	return l
}

// P1: functions that no file contains have no variables and no literals.
func TestMalformedFunctions(t *testing.T) {
	for _, n := range malformed() {
		checkNothing(t, n)
	}
}

// P1: nodes that contain themselves.
func TestEndlessNodes(t *testing.T) {
	for kind := -1; kind <= api.NLiteral+1; kind++ {
		for _, text := range []string{"", "x", "-", "+"} {
			for count := range 3 {
				round := make([]api.Node, count+1)
				for i := range round {
					round[i] = api.Node{Kind: kind, Text: text, Ref: api.RefLocal, Kids: round}
				}
				checkNothing(t, round[0])
				checkNothing(t, node(api.NLiteral, "", round...))
				checkNothing(t, node(api.NLiteral, "", node(api.NBlock, "", round...)))
				checkNothing(t, node(api.NFunc, "f", node(api.NParams, ""), node(api.NNone, ""), node(api.NBlock, "", round...)))
			}
		}
	}
}

// P1: nodes with many levels. The first literal has as many as a file can give it, and the second one has one more.
func TestManyLevels(t *testing.T) {
	n := node(api.NBlock, "", node(api.NDefine, "x", node(api.NNil, "")))
	for range api.MaxDepth - 8 {
		n = node(api.NBlock, "", n)
	}
	if got := Locals(node(api.NLiteral, "", n)); !slices.Equal(got, []api.Local{{Name: "x"}}) {
		t.Error(got)
	}
	checkNothing(t, node(api.NLiteral, "", node(api.NBlock, "", n)))
	for range 1 << 16 {
		n = node(api.NBlock, "", node(api.NReturn, "", node(api.NLiteral, "", n)))
	}
	checkNothing(t, node(api.NLiteral, "", n))
	checkNothing(t, node(api.NFunc, "f", node(api.NParams, ""), node(api.NNone, ""), n))
}
