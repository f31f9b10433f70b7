package check

import (
	"slices"
	"strconv"
	"strings"
	"testing"

	"interleave/api"
	"interleave/parse"
	"interleave/syntax"
	"interleave/types"
)

type kids = []api.Node

// bare builds a node without a text.
func bare(kind int, l ...api.Node) api.Node { return api.Node{Kind: kind, Kids: l} }

// texted builds a node with a text.
func texted(kind int, text string, l ...api.Node) api.Node {
	return api.Node{Kind: kind, Text: text, Kids: l}
}

func none() api.Node             { return bare(api.NNone) }
func name(text string) api.Node  { return texted(api.NName, text) }
func typed(text string) api.Node { return texted(api.NType, text) }

// parsed returns the tree of a text.
func parsed(t *testing.T, s string) api.Node {
	t.Helper()
	n, at, e := parse.Parse(s)
	if e != api.OK {
		t.Fatalf("%q: %d %v", s, at, e)
	}
	return n
}

// numbered returns a tree in which every node has an offset of its own, and in which what Check has to ignore has values that differ
// from node to node.
func numbered(n api.Node) api.Node {
	next := 0
	var number func(n api.Node) api.Node
	number = func(n api.Node) api.Node {
		next++
		n.At, n.Ref, n.Up = next*37%1009*1009+next, next%5-1, next%3-1
		n.Type = api.Type{Kind: next % 14, Name: "T"}
		if n.Kind != api.NInt && n.Kind != api.NBool {
			n.Num = next%7 - 3
		}
		n.Kids = slices.Clone(n.Kids)
		for i, k := range n.Kids {
			n.Kids[i] = number(k)
		}
		return n
	}
	return number(n)
}

// same reports whether two trees are the same in all fields.
func same(a, b api.Node) bool {
	fields := a.Kind == b.Kind && a.Text == b.Text && a.Num == b.Num && a.At == b.At && a.Type == b.Type && a.Ref == b.Ref && a.Up == b.Up
	return fields && slices.EqualFunc(a.Kids, b.Kids, same)
}

// isZero reports whether a tree is the one that comes with an error.
func isZero(n api.Node) bool { return same(n, api.Node{}) }

// show writes a node as it appears in messages: its offset, and what show of its children writes.
func show(n api.Node) string {
	s := label(n) + "@" + strconv.Itoa(n.At)
	for _, k := range n.Kids {
		s += " " + show(k)
	}
	return "(" + s + ")"
}

var kindNames = strings.Fields("? file struct field func params var type pointer none block define assign expr go defer send close if for return print select case int bool nil name member index call unary binary receive new slice chan len literal")

// label writes a node with its annotations, for example "x local1 up2 int": only those that are not zero.
func label(n api.Node) string {
	s := kindNames[max(0, min(n.Kind, len(kindNames)-1))]
	if n.Text != "" {
		s = n.Text
	}
	if n.Ref != 0 || n.Num != 0 && n.Kind != api.NInt && n.Kind != api.NBool {
		s += " " + [...]string{"none", "local", "global", "func"}[n.Ref&3] + strconv.Itoa(n.Num)
	}
	if n.Up != 0 {
		s += " up" + strconv.Itoa(n.Up)
	}
	if n.Type != (api.Type{}) {
		s += " " + types.Text(n.Type)
	}
	return s
}

// levels returns the number of nodes of the longest path.
func levels(n api.Node) int {
	most := 0
	for _, k := range n.Kids {
		most = max(most, levels(k))
	}
	return most + 1
}

// accepted returns the annotated file.
func accepted(t *testing.T, f api.Node) api.Node {
	t.Helper()
	n, at, e := Check(f)
	if e != api.OK || at != 0 {
		t.Fatalf("%.500q: %d %v", syntax.Print(f), at, e)
	}
	return n
}

// checkRejected requires an error at an offset.
func checkRejected(t *testing.T, f api.Node, want int, wanted api.Errno) {
	t.Helper()
	n, at, e := Check(f)
	if at != want || e != wanted || !isZero(n) {
		t.Errorf("%.500q: %d %v, want %d %v", syntax.Print(f), at, e, want, wanted)
	}
}

// checkText requires of a text with a @ that Check returns an error at the node of this kind that has the offset of the @. This holds,
// too, for the tree in which no two nodes have the same offset.
func checkText(t *testing.T, s string, kind int, e api.Errno) {
	t.Helper()
	text := strings.Replace(s, "@", "", 1)
	f := parsed(t, text)
	checkRejected(t, f, strings.Index(s, "@"), e)
	other, found := numbered(f), 0
	var search func(a, b api.Node)
	search = func(a, b api.Node) {
		if a.At == strings.Index(s, "@") && a.Kind == kind {
			found++
			checkRejected(t, other, b.At, e)
		}
		for i := range a.Kids {
			search(a.Kids[i], b.Kids[i])
		}
	}
	search(f, other)
	if found != 1 {
		t.Errorf("%q: %d nodes", s, found)
	}
}
