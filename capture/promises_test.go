package capture

import (
	"slices"
	"strconv"
	"testing"

	"interleave/api"
	"interleave/syntax"
)

// P8.1: the functions of random programs have the specified results.
func TestPrograms(t *testing.T) {
	captures, deepest := 0, 0
	for size := 2; size <= 7; size++ {
		for _, f := range files(t, 60, size) {
			for _, fn := range functions(f) {
				want := specifiedCaptures(fn)
				checkResults(t, fn, specifiedLocals(fn), want, functions(fn)[1:])
				for _, c := range want {
					captures++
					deepest = max(deepest, c.Up)
				}
			}
		}
	}
	if captures < 1000 || deepest < 4 {
		t.Error(captures, deepest)
	}
}

// P8.1: the results follow from the names of variables, where all of them differ.
func TestNames(t *testing.T) {
	captures, boxes := 0, 0
	for size := 2; size <= 7; size++ {
		for _, s := range programs(60, size, true) {
			for _, f := range named(annotated(t, s), nil) {
				var names, boxed []string
				for _, v := range Locals(f.fn) {
					names = append(names, v.Name)
					if v.Boxed {
						boxed = append(boxed, v.Name)
					}
				}
				if !slices.Equal(names, f.names) || !slices.Equal(boxed, f.boxed()) {
					t.Fatalf("%s\n%d: %v, want %v and %v", s, f.fn.At, showLocals(Locals(f.fn)), f.names, f.boxed())
				}
				if got := Captures(f.fn); !slices.Equal(got, f.captures()) {
					t.Fatalf("%s\n%d: %s, want %s", s, f.fn.At, showCaptures(got), showCaptures(f.captures()))
				}
				boxes += len(boxed)
				captures += len(Captures(f.fn))
			}
		}
	}
	if captures < 1000 || boxes < 1000 {
		t.Error(captures, boxes)
	}
}

// allFunctions returns the functions of random programs.
func allFunctions(t *testing.T) []api.Node {
	t.Helper()
	var l []api.Node
	for size := 2; size <= 6; size++ {
		for _, f := range files(t, 60, size) {
			l = append(l, functions(f)...)
		}
	}
	return l
}

// P8.2: uses in a function have the name and the type of its variables, and variables from outside are captured.
func TestPromiseOfUses(t *testing.T) {
	own, outside := 0, 0
	for _, fn := range allFunctions(t) {
		locals, captures := Locals(fn), Captures(fn)
		for _, x := range within(fn) {
			level := x.level()
			switch {
			case x.Kind != api.NName || x.Ref != api.RefLocal:
			case x.Up > level:
				outside++
				if fn.Kind != api.NLiteral || !slices.Contains(captures, api.Capture{Up: x.Up - level, Num: x.Num}) {
					t.Errorf("%s@%d: not captured by %d@%d", x.Text, x.At, fn.Kind, fn.At)
				}
			case level == 0:
				own++
				if x.Num >= len(locals) || locals[x.Num].Name != x.Text || locals[x.Num].Type != x.Type {
					t.Errorf("%s@%d: %d of %s", x.Text, x.At, x.Num, showLocals(locals))
				}
			}
		}
	}
	if own < 1000 || outside < 1000 {
		t.Error(own, outside)
	}
}

// P8.3: what a literal captures from farther outside, the literal around it captures, too; functions need nothing from outside.
func TestPromiseOfNesting(t *testing.T) {
	counts := map[int]int{}
	for _, fn := range allFunctions(t) {
		outer := Captures(fn)
		for _, lit := range directlyNested(fn) {
			for _, c := range Captures(lit) {
				counts[c.Up]++
				if c.Up > 1 && !slices.Contains(outer, api.Capture{Up: c.Up - 1, Num: c.Num}) || c.Up < 1 {
					t.Errorf("%d@%d: %s within %s", lit.Kind, lit.At, showCaptures([]api.Capture{c}), showCaptures(outer))
				}
				if fn.Kind == api.NFunc && c.Up != 1 {
					t.Errorf("%s: %s", fn.Text, showCaptures([]api.Capture{c}))
				}
			}
		}
	}
	if counts[1] < 1000 || counts[2] < 300 || counts[3] < 30 {
		t.Error(counts)
	}
}

// P8.4: a variable is boxed exactly if a literal directly nested in its function captures it with Up 1.
func TestPromiseOfBoxes(t *testing.T) {
	counts := map[bool]int{}
	for _, fn := range allFunctions(t) {
		captured := map[api.Capture]bool{}
		for _, lit := range directlyNested(fn) {
			for _, c := range Captures(lit) {
				captured[c] = true
			}
		}
		for i, v := range Locals(fn) {
			counts[v.Boxed]++
			if v.Boxed != captured[api.Capture{Up: 1, Num: i}] {
				t.Errorf("%s of %d@%d: %t", v.Name, fn.Kind, fn.At, v.Boxed)
			}
		}
	}
	if counts[true] < 500 || counts[false] < 1000 {
		t.Error(counts)
	}
}

// overwrite changes all nodes of a tree, and the spare capacity of its lists of children.
func overwrite(n api.Node) {
	for i := range n.Kids {
		overwrite(n.Kids[i])
	}
	l := n.Kids[:cap(n.Kids)]
	for i := range l {
		l[i] = api.Node{Kind: api.NInt, Num: 13}
	}
}

// spared returns a copy of a tree whose lists of children have spare capacity, in which there are nodes.
func spared(n api.Node) api.Node {
	n.Kids = slices.Grow(slices.Clone(n.Kids), 2)
	for i, k := range n.Kids {
		n.Kids[i] = spared(k)
	}
	rest := n.Kids[len(n.Kids):cap(n.Kids)]
	for i := range rest {
		rest[i] = api.Node{Kind: api.NName, Text: "spare", Ref: api.RefLocal}
	}
	return n
}

// isIntact reports whether the spare capacity of a tree is as spared made it.
func isIntact(n api.Node) bool {
	for _, k := range n.Kids[len(n.Kids):cap(n.Kids)] {
		if k.Text != "spare" {
			return false
		}
	}
	for _, k := range n.Kids {
		if !isIntact(k) {
			return false
		}
	}
	return true
}

// P8.1 and P1: arguments stay as they are, also when the results are changed, and no two literals of a result share memory.
func TestMemory(t *testing.T) {
	for _, f := range files(t, 40, 5) {
		f = spared(f)
		before := syntax.Print(f)
		for _, fn := range functions(f) {
			locals, captures, literals := Locals(fn), Captures(fn), Literals(fn)
			want := functions(fn)[1:]
			for i := range locals {
				locals[i] = api.Local{}
			}
			for i := range captures {
				captures[i] = api.Capture{}
			}
			for i, n := range literals {
				if !same(n, want[i]) {
					t.Fatalf("%d: literal %d of %d", fn.At, i, len(literals))
				}
				overwrite(n)
			}
			checkResults(t, fn, specifiedLocals(fn), specifiedCaptures(fn), want)
		}
		if !isIntact(f) || syntax.Print(f) != before {
			t.Fatal("changed")
		}
		accepted(t, f)
	}
}

// P8.1: results depend on nothing but the node: not on what was asked before, and not on the spare capacity of its lists.
func TestSameResults(t *testing.T) {
	for _, f := range files(t, 40, 4) {
		other := functions(spared(f))
		for i, fn := range functions(f) {
			locals, captures, literals := Locals(fn), Captures(fn), Literals(fn)
			for range 3 {
				checkResults(t, fn, locals, captures, literals)
				checkResults(t, other[i], locals, captures, literals)
			}
		}
	}
}

// P8.1: a function with many variables, a third of which a literal captures, from the last one to the first one.
func TestLargeFunctions(t *testing.T) {
	const count = 5000
	name := func(i int) string { return "v" + strconv.Itoa(i) }
	var defines, uses []api.Node
	for i := range count {
		defines = append(defines, node(api.NDefine, name(i), node(api.NNew, "T")))
		if i%3 == 0 {
			uses = append(uses, node(api.NAssign, "", node(api.NName, name(i)), node(api.NNil, "")))
		}
	}
	slices.Reverse(uses)
	call := node(api.NCall, "", node(api.NLiteral, "", node(api.NBlock, "", uses...)))
	body := node(api.NBlock, "", append(defines, node(api.NGo, "", call))...)
	f := node(api.NFile, "", node(api.NStruct, "T"), node(api.NFunc, "main", node(api.NParams, ""), node(api.NNone, ""), body))
	l := functions(accepted(t, f))
	locals, captures := Locals(l[0]), Captures(l[1])
	if len(locals) != count || len(captures) != len(uses) {
		t.Fatal(len(locals), len(captures))
	}
	for i, v := range locals {
		if v != (api.Local{Name: name(i), Type: api.Type{Kind: api.TPointer, Name: "T"}, Boxed: i%3 == 0}) {
			t.Fatal(i, v)
		}
	}
	for i, c := range captures {
		if c != (api.Capture{Up: 1, Num: (len(captures) - 1 - i) * 3}) {
			t.Fatal(i, c)
		}
	}
}
