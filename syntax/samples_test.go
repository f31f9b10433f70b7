package syntax

import (
	"slices"
	"strings"

	"interleave/api"
)

// chooser makes choices that are the same in every run.
type chooser struct{ state uint64 }

// below returns a number from 0 to n-1.
func (c *chooser) below(n int) int {
	c.state = c.state*6364136223846793005 + 1442695040888963407
	return int(c.state>>33) % n
}

func pick[T any](c *chooser, l []T) T { return l[c.below(len(l))] }

// names are names at the edges of their definition.
var names = []string{"x", "y", "_", "A9", "goto", "returns", "Int", strings.Repeat("n", 32)}

// small are the kinds of each set that need the fewest nodes.
var small = map[string][]int{
	"statement":     {api.NBlock, api.NReturn, api.NSelect},
	"expression":    {api.NName, api.NNew, api.NInt, api.NBool, api.NNil},
	"declaration":   {api.NStruct, api.NVar},
	"communication": {api.NSend},
}

// grow returns a node of one of the sets. Once size is 0, it grows no further than needed.
func (c *chooser) grow(words string, size int) api.Node {
	set := pick(c, strings.Split(words, "|"))
	if size <= 0 && strings.Contains(words, "none") {
		set = "none"
	}
	kinds := sets[set]
	if l := small[set]; size <= 0 && l != nil {
		kinds = l
	}
	r, _ := rowOf(pick(c, kinds))
	n := api.Node{Kind: r.kind}
	switch {
	case r.text == "name":
		n.Text = pick(c, names)
	case r.text != "":
		n.Text = pick(c, strings.Fields(r.text))
	}
	switch n.Kind {
	case api.NInt:
		n.Num = pick(c, []int{0, 1, 10, 1<<63 - 1})
	case api.NBool:
		n.Num = c.below(2)
	}
	for _, word := range strings.Fields(r.children) {
		n.Kids = append(n.Kids, c.children(word, size)...)
	}
	return c.corrected(set, n)
}

// children returns the children that a word of the table describes.
func (c *chooser) children(word string, size int) []api.Node {
	count := 1
	words, many := strings.CutSuffix(word, "*")
	words, rare := strings.CutSuffix(words, "?")
	switch {
	case size <= 0 && (many || rare):
		count = 0
	case many:
		count = c.below(3) + min(size/3, 1)
	case rare:
		count = c.below(2)
	}
	var l []api.Node
	for range count {
		l = append(l, c.grow(words, size-1-c.below(2)))
	}
	return l
}

// corrected changes a node so that it fulfils what the table says in words.
func (c *chooser) corrected(set string, n api.Node) api.Node {
	last := len(n.Kids) - 1
	switch {
	case set == "declaration" && n.Kind == api.NVar:
		n.Kids[last] = api.Node{Kind: api.NNone}
	case set == "communication" && n.Kind != api.NSend && n.Kids[last].Kind != api.NReceive:
		operand := n.Kids[last]
		n.Kids[last] = api.Node{Kind: api.NReceive, Kids: kids{operand}}
	}
	return n
}

// files returns files that contain nodes of all kinds.
func files(count, size int) []api.Node {
	c := &chooser{state: uint64(size)}
	var l []api.Node
	for range count {
		f := api.Node{Kind: api.NFile}
		f.Kids = append(f.Kids, c.children("declaration*", size)...)
		l = append(l, f)
	}
	return l
}

// changes returns trees that differ from n in one node.
func changes(n api.Node) []api.Node {
	var l []api.Node
	for i, k := range n.Kids {
		for _, changed := range append(changes(k), nodeChanges(k)...) {
			m := n
			m.Kids = slices.Clone(n.Kids)
			m.Kids[i] = changed
			l = append(l, m)
		}
	}
	return l
}

// nodeChanges returns trees that differ from n in its root, in its list of children or in the grouping of an operator.
func nodeChanges(n api.Node) []api.Node {
	var l []api.Node
	for kind := -1; kind <= api.NLiteral+1; kind++ {
		m := n
		m.Kind = kind
		l = append(l, m)
	}
	for _, text := range append(strings.Fields("x y go -  ! [] [ & chan func int <- := = string +- 9x x/ x;  é"), "", " x", "x ", "x\n", "x//", "[] int", "chan int", strings.Repeat("n", 33)) {
		m := n
		m.Text = text
		l = append(l, m)
	}
	for _, num := range []int{-1 << 63, -1, 0, 1, 2} {
		m := n
		m.Num = num
		l = append(l, m)
	}
	for _, list := range listChanges(n.Kids) {
		m := n
		m.Kids = list
		l = append(l, m)
	}
	return append(l, turned(n)...)
}

// listChanges returns lists that differ from l in one place.
func listChanges(l []api.Node) [][]api.Node {
	var all [][]api.Node
	for i := 0; i <= len(l); i++ {
		for _, k := range []int{api.NNone, api.NName, api.NBlock, api.NReceive} {
			all = append(all, slices.Insert(slices.Clone(l), i, leaf(k)))
		}
		if i < len(l) {
			all = append(all, slices.Delete(slices.Clone(l), i, i+1), slices.Insert(slices.Clone(l), i, l[i]))
		}
		if i+1 < len(l) {
			swapped := slices.Clone(l)
			swapped[i], swapped[i+1] = l[i+1], l[i]
			all = append(all, swapped)
		}
	}
	return all
}

// turned returns n with another grouping of the operators at its root.
func turned(n api.Node) []api.Node {
	if n.Kind != api.NBinary || len(n.Kids) != 2 || n.Kids[0].Kind != api.NBinary || len(n.Kids[0].Kids) != 2 {
		return nil
	}
	a, b, c := n.Kids[0].Kids[0], n.Kids[0].Kids[1], n.Kids[1]
	return []api.Node{binary(n.Kids[0].Text, a, binary(n.Text, b, c))}
}
