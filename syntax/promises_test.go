package syntax

import (
	"reflect"
	"slices"
	"testing"

	"interleave/api"
	"interleave/scan"
)

// trees returns trees of all sorts: files, trees that are no files, and trees of nodes that are not permitted.
func trees() []api.Node {
	all := kids{{}, {Kind: -5, Text: "\xff", Num: 3}, node(99, node(98), node(98)), name(""), integer(-3), boolean(7), file(), chain(70)}
	for _, f := range files(12, 4) {
		all = append(all, f, annotate(f, 5))
		all = append(all, f.Kids...)
	}
	for i, g := range changes(files(4, 4)[3]) {
		if i%40 == 0 {
			all = append(all, g)
		}
	}
	return all
}

// checkEqual requires that two trees are equal, or that they are not.
func checkEqual(t *testing.T, a, b api.Node, want bool) {
	t.Helper()
	if Equal(a, b) != want || Equal(b, a) != want {
		t.Errorf("%s and %s: %t %t, want %t", show(a), show(b), Equal(a, b), Equal(b, a), want)
	}
}

// P3.1: each field that has a meaning makes trees differ, at the root and below it.
func TestDifferences(t *testing.T) {
	base := api.Node{Kind: api.NInt, Text: "a", Num: 1, Kids: kids{name("x"), name("y")}}
	for _, change := range []func(*api.Node){
		func(n *api.Node) { n.Kind = api.NBool },
		func(n *api.Node) { n.Text = "b" },
		func(n *api.Node) { n.Text = "" },
		func(n *api.Node) { n.Num = 2 },
		func(n *api.Node) { n.Num = -1 },
		func(n *api.Node) { n.Kids = nil },
		func(n *api.Node) { n.Kids = n.Kids[:1] },
		func(n *api.Node) { n.Kids = kids{name("y"), name("x")} },
		func(n *api.Node) { n.Kids = kids{name("x"), name("y"), none()} },
		func(n *api.Node) { n.Kids = kids{name("x"), name("z")} },
	} {
		n := base
		change(&n)
		checkEqual(t, base, n, false)
		checkEqual(t, node(50, none(), base), node(50, none(), n), false)
		checkEqual(t, n, n, true)
	}
}

// P3.1: fields without a meaning do not make trees differ.
func TestIrrelevantFields(t *testing.T) {
	base := node(api.NPrint, integer(4), boolean(1), name("x"))
	for _, change := range []func(*api.Node){
		func(n *api.Node) { n.At = 3 },
		func(n *api.Node) { n.Ref = api.RefGlobal },
		func(n *api.Node) { n.Up = -2 },
		func(n *api.Node) { n.Type = api.Type{Kind: api.TInt} },
		func(n *api.Node) { n.Type.Name = "T" },
	} {
		n := node(api.NPrint, slices.Clone(base.Kids)...)
		for i := range n.Kids {
			change(&n.Kids[i])
		}
		change(&n)
		checkEqual(t, base, n, true)
	}
	for kind := -1; kind <= api.NLiteral+1; kind++ {
		numbered := kind == api.NInt || kind == api.NBool
		checkEqual(t, api.Node{Kind: kind, Num: 5}, api.Node{Kind: kind, Num: 6}, !numbered)
		bare := Strip(api.Node{Kind: kind, Num: 5, Text: "t"})
		if bare.Kind != kind || bare.Text != "t" || (bare.Num == 5) != numbered || bare.Num != 0 && !numbered {
			t.Error(bare)
		}
	}
	checkEqual(t, api.Node{Kind: api.NBlock, Kids: kids{}}, block(), true)
}

// P3.1: Strip removes the annotations of all nodes and nothing else.
func TestStrip(t *testing.T) {
	for _, n := range trees() {
		for _, start := range []int{1, 1000} {
			if bare := Strip(annotate(n, start)); !reflect.DeepEqual(bare, Strip(n)) || show(bare) != show(n) {
				t.Fatalf("%s: %s", show(n), show(bare))
			}
		}
		for x := range Walk(Strip(annotate(n, 1))) {
			numbered := x.Kind == api.NInt || x.Kind == api.NBool
			if x.At != 0 || x.Type != (api.Type{}) || x.Ref != 0 || x.Up != 0 || x.Num != 0 && !numbered {
				t.Fatal(x)
			}
		}
	}
}

// P3.2: Equal is reflexive and symmetric; trees are equal exactly if their stripped trees are identical.
func TestEquality(t *testing.T) {
	all := trees()
	for i, a := range all {
		bare := Strip(a)
		checkEqual(t, a, a, true)
		checkEqual(t, a, bare, true)
		checkEqual(t, a, annotate(a, i), true)
		if !reflect.DeepEqual(Strip(bare), bare) {
			t.Fatal(show(a))
		}
		for _, b := range all {
			checkEqual(t, a, b, reflect.DeepEqual(bare, Strip(b)))
		}
	}
	same := 0
	for _, f := range files(30, 4) {
		for _, g := range changes(f) {
			want := show(f) == show(g)
			checkEqual(t, f, g, want)
			if want {
				same++
			}
		}
	}
	if same == 0 {
		t.Error("no change left a tree equal")
	}
}

// P3.2: equal files have the same text.
func TestEqualTexts(t *testing.T) {
	for i, f := range files(300, 6) {
		checkPrint(t, annotate(f, i), Print(f))
		checkPrint(t, Strip(annotate(f, i)), Print(f))
	}
}

// P3.3: the text of a file scans without error if it is short enough.
func TestTextsScan(t *testing.T) {
	short := 0
	for _, size := range []int{4, 6, 9, 12} {
		for _, f := range files(400, size) {
			s := Print(f)
			_, at, e := scan.Scan(s)
			if len(s) <= api.MaxText && (e != api.OK || at != 0) {
				t.Fatalf("%d %v:\n%s", at, e, s)
			}
			if len(s) <= api.MaxText {
				short++
			}
		}
	}
	if short < 1000 {
		t.Error(short)
	}
}

// P3.3: two files with the same text are equal.
func TestTextsDiffer(t *testing.T) {
	known := map[string]api.Node{}
	remember := func(f api.Node) {
		s := Print(f)
		if g, found := known[s]; found && show(g) != show(f) {
			t.Fatalf("%s and %s:\n%s", show(f), show(g), s)
		}
		known[s] = f
	}
	for _, size := range []int{2, 4, 5} {
		for _, f := range files(400, size) {
			remember(f)
			if Count(f) > 40 {
				continue
			}
			for _, g := range changes(f) {
				if Valid(g) {
					remember(g)
				}
			}
		}
	}
	for _, e := range expressions() {
		remember(within(printing(e)))
		if e.Kind == api.NReceive || e.Kind == api.NCall {
			remember(within(action(e)))
		}
	}
	if len(known) < 20000 {
		t.Error(len(known))
	}
}

// expressions returns all expressions of a few operators with at most three levels.
func expressions() []api.Node {
	all := kids{name("x"), integer(1)}
	for range 2 {
		l := slices.Clone(all[:min(len(all), 40)])
		for _, a := range l {
			all = append(all, unary("-", a), unary("!", a), receive(a), named(api.NMember, "x", a), call(a), node(api.NLen, a))
			for _, b := range l {
				all = append(all, binary("-", a, b), binary("<", a, b), node(api.NIndex, a, b), call(a, b), call(a, b, b), call(a, a, b))
			}
		}
	}
	return all
}

// preorder returns the nodes of a tree by the definition.
func preorder(n api.Node) []api.Node {
	l := kids{n}
	for _, k := range n.Kids {
		l = append(l, preorder(k)...)
	}
	return l
}

// P3.4: Walk yields Count(n) nodes in preorder, also if it is used twice, and within another loop.
func TestWalk(t *testing.T) {
	for _, n := range trees() {
		want := preorder(n)
		walk := Walk(n)
		for range 2 {
			if l := slices.Collect(walk); !reflect.DeepEqual(l, want) || len(l) != Count(n) {
				t.Fatal(show(n), len(l), Count(n))
			}
		}
		pairs := 0
		for range walk {
			for range walk {
				pairs++
			}
		}
		if pairs != len(want)*len(want) {
			t.Fatal(show(n), pairs)
		}
	}
}

// P3.4: a loop may be left after any node.
func TestLeavingEarly(t *testing.T) {
	for _, n := range trees() {
		want := preorder(n)
		for last := range want {
			var l []api.Node
			for x := range Walk(n) {
				l = append(l, x)
				if len(l) == last+1 {
					break
				}
			}
			if !reflect.DeepEqual(l, want[:last+1]) {
				t.Fatal(show(n), last, len(l))
			}
		}
	}
}

// P1: no call panics, whatever its trees are; they may have many levels and many children.
func TestTotality(t *testing.T) {
	deep, wide := chain(1<<16), node(api.NFile, make(kids, 1<<18)...)
	for _, n := range append(trees(), deep, wide, file(deep), within(printing(deep))) {
		if Valid(n) != specifiedFile(n) || (Print(n) != "") != (specifiedFile(n) && len(n.Kids) > 0) {
			t.Error(n.Kind)
		}
		if !Equal(n, Strip(n)) || Count(n) != Count(Strip(n)) {
			t.Error(n.Kind)
		}
	}
	if Count(deep) != 1<<16 || Count(wide) != 1<<18+1 || Equal(deep, wide) || Equal(deep, chain(1<<16-1)) {
		t.Error(Count(deep), Count(wide))
	}
}

// spare returns a tree whose lists of children have nodes in their spare capacity.
func spare(n api.Node) api.Node {
	l := make(kids, 0, len(n.Kids)+1)
	for _, k := range n.Kids {
		l = append(l, spare(k))
	}
	n.Kids = append(l, integer(77))[:len(l)]
	return n
}

// complete returns a tree in which the spare capacity belongs to the lists of children.
func complete(n api.Node) api.Node {
	l := slices.Clone(n.Kids[:cap(n.Kids)])
	for i := range l {
		l[i] = complete(l[i])
	}
	n.Kids = l
	return n
}

// Rule 5: no function changes its arguments, including their spare capacity.
func TestArguments(t *testing.T) {
	for _, n := range trees() {
		n = spare(n)
		before := complete(n)
		Valid(n)
		Equal(n, n)
		Strip(n)
		Print(n)
		Count(n)
		for range Walk(n) {
		}
		if !reflect.DeepEqual(complete(n), before) {
			t.Fatal(show(n))
		}
	}
}

// overwrite changes all nodes of a tree, and the spare capacity of its lists of children.
func overwrite(n api.Node) {
	for i := range n.Kids {
		overwrite(n.Kids[i])
	}
	l := n.Kids[:cap(n.Kids)]
	for i := range l {
		l[i] = integer(13)
	}
}

// Rule 7: a stripped tree is new memory, and no two of its lists share any.
func TestNewMemory(t *testing.T) {
	for _, n := range trees() {
		n = spare(n)
		before := complete(n)
		bare, other := Strip(n), Strip(n)
		overwrite(bare)
		if !reflect.DeepEqual(complete(n), before) || !Equal(other, n) {
			t.Fatal(show(n))
		}
		for i := range other.Kids {
			rest := show(file(other.Kids[i+1:]...))
			overwrite(other.Kids[i])
			_ = append(other.Kids[i].Kids, none())
			if show(file(other.Kids[i+1:]...)) != rest {
				t.Fatal(show(n))
			}
		}
	}
}
