package compile

import (
	"math"
	"slices"
	"strings"
	"testing"

	"interleave/api"
	"interleave/code"
	"interleave/scan"
	"interleave/syntax"
)

// P11.1: the programs of random files are valid, with the specified functions and tables.
func TestPrograms(t *testing.T) {
	w := &author{chooser: &chooser{state: 23}, literals: true}
	functions := 0
	for _, s := range texts(60, w) {
		f := annotated(t, parsed(t, s))
		p, want := accepted(t, f), newTree(f)
		if !code.Valid(p) || p.Main != want.main() || !slices.Equal(p.Globals, want.globals()) {
			t.Fatalf("%s\n%d %v", s, p.Main, p.Globals)
		}
		if !slices.EqualFunc(p.Layouts, want.layouts(), slices.Equal[[]int]) || len(p.Funcs) != len(want.routines) {
			t.Fatalf("%s\n%v %d", s, p.Layouts, len(p.Funcs))
		}
		for i, r := range want.routines {
			functions++
			if p.Funcs[i].Name != r.name || p.Funcs[i].Params != r.params {
				t.Fatalf("%s\n%s with %d parameters, want %s", s, p.Funcs[i].Name, p.Funcs[i].Params, r.name)
			}
		}
	}
	if functions < 4000 {
		t.Error(functions)
	}
}

// changedNames returns a tree in which local variables have other names.
func changedNames(n api.Node, isLocal bool) api.Node {
	if n.Kind == api.NName {
		isLocal = n.Ref == api.RefLocal
	}
	if isLocal && n.Text != "" && (n.Kind == api.NName || n.Kind == api.NVar || n.Kind == api.NDefine || n.Kind == api.NField) {
		n.Text = "_" + n.Text
	}
	n.Kids = slices.Clone(n.Kids)
	for i, k := range n.Kids {
		n.Kids[i] = changedNames(k, isLocal || n.Kind == api.NFunc)
	}
	return n
}

// P11.4: the names of local variables do not matter.
func TestNames(t *testing.T) {
	w := &author{chooser: &chooser{state: 29}, literals: true}
	for _, s := range texts(40, w) {
		f := annotated(t, parsed(t, s))
		other := changedNames(f, false)
		if syntax.Equal(f, other) || !code.Equal(accepted(t, f), accepted(t, other)) {
			t.Fatalf("%s\n%s", s, syntax.Print(other))
		}
	}
}

// withoutOffsets returns a program in which all offsets are 0.
func withoutOffsets(p api.Program) api.Program {
	p.Funcs = slices.Clone(p.Funcs)
	for i := range p.Funcs {
		f := &p.Funcs[i]
		f.Code = slices.Clone(f.Code)
		for k := range f.Code {
			f.Code[k].At = 0
		}
	}
	return p
}

// laidOut returns a text with the same tokens and another layout.
func laidOut(s string, c *chooser) string {
	tokens, _, _ := scan.Scan(s)
	var b strings.Builder
	for _, x := range tokens {
		b.WriteString(x.Text)
		b.WriteString(pick(c, []string{" ", "\t", " \r ", "  "}))
		if strings.Contains("{ ; ,", x.Text) {
			b.WriteString(pick(c, []string{"", "", "\n", "// x := 1\n", "\n\n// }\n"}))
		}
	}
	return b.String()
}

// P11.4: layout and comments do not matter, apart from offsets.
func TestLayout(t *testing.T) {
	w := &author{chooser: &chooser{state: 31}, literals: true}
	for _, s := range texts(40, w) {
		other := laidOut(s, w.chooser)
		if len(other) > api.MaxText {
			continue
		}
		p, q := source(t, s), source(t, other)
		if code.Equal(p, q) || !code.Equal(withoutOffsets(p), withoutOffsets(q)) {
			t.Fatalf("%s\n%s", s, other)
		}
	}
}

// P11.4: annotations do not matter, and neither does what the layer of trees gives no meaning.
func TestAnnotations(t *testing.T) {
	w := &author{chooser: &chooser{state: 37}, literals: true}
	var disturbed func(n api.Node) api.Node
	disturbed = func(n api.Node) api.Node {
		n.Type = api.Type{Kind: w.below(14), Name: "T"}
		n.Ref, n.Up = w.below(5)-1, w.below(5)-1
		if n.Kind != api.NInt && n.Kind != api.NBool {
			n.Num = w.below(9) - 1
		}
		n.Kids = slices.Clone(n.Kids)
		for i, k := range n.Kids {
			n.Kids[i] = disturbed(k)
		}
		return n
	}
	for _, s := range texts(40, w) {
		f := parsed(t, s)
		p := accepted(t, f)
		if !code.Equal(p, accepted(t, annotated(t, f))) || !code.Equal(p, accepted(t, disturbed(f))) {
			t.Fatal(s)
		}
	}
}

// spared returns a copy of a tree whose lists of children have spare capacity, in which there are nodes.
func spared(n api.Node) api.Node {
	n.Kids = slices.Grow(slices.Clone(n.Kids), 2)
	for i, k := range n.Kids {
		n.Kids[i] = spared(k)
	}
	rest := n.Kids[len(n.Kids):cap(n.Kids)]
	for i := range rest {
		rest[i] = api.Node{Kind: api.NName, Text: "spare"}
	}
	return n
}

// sameTree reports whether two trees are the same in all fields and in the spare capacity of their lists.
func sameTree(a, b api.Node) bool {
	fields := a.Kind == b.Kind && a.Text == b.Text && a.Num == b.Num && a.At == b.At && a.Type == b.Type && a.Ref == b.Ref && a.Up == b.Up
	n := min(cap(a.Kids), cap(b.Kids))
	return fields && len(a.Kids) == len(b.Kids) && slices.EqualFunc(a.Kids[:n], b.Kids[:n], sameTree)
}

// overwrite changes everything in a program, and the spare capacity of its lists.
func overwrite(p api.Program) {
	for i := range p.Funcs {
		l := p.Funcs[i].Code[:cap(p.Funcs[i].Code)]
		for k := range l {
			l[k] = api.Instr{Op: api.OpPrint, A: 77}
		}
		p.Funcs[i] = api.Func{Name: "other"}
	}
	for i := range p.Globals {
		p.Globals[i] = api.Global{Name: "other"}
	}
	for _, l := range p.Layouts {
		l = l[:cap(l)]
		for i := range l {
			l[i] = 13
		}
	}
}

// P11.1 and P1: arguments stay as they are, results are new memory, and nothing is kept between calls.
func TestMemory(t *testing.T) {
	w := &author{chooser: &chooser{state: 41}, literals: true}
	for _, s := range texts(20, w) {
		f := spared(parsed(t, s))
		before := spared(parsed(t, s))
		want := accepted(t, parsed(t, s))
		for range 3 {
			p := accepted(t, f)
			if !code.Equal(p, want) || !sameTree(f, before) {
				t.Fatal(s)
			}
			overwrite(p)
			Source("func main() { }")
		}
	}
}

// damaged returns a tree with one change at a random place.
func damaged(n api.Node, c *chooser) api.Node {
	at := c.below(syntax.Count(n))
	var search func(n api.Node) api.Node
	search = func(n api.Node) api.Node {
		if at == 0 {
			n = changed(n, c)
		}
		at--
		n.Kids = slices.Clone(n.Kids)
		for i, k := range n.Kids {
			n.Kids[i] = search(k)
		}
		return n
	}
	return search(n)
}

func changed(n api.Node, c *chooser) api.Node {
	numbers := []int{-1, 0, 1, 2, 3, 1 << 20, math.MaxInt, math.MinInt}
	switch c.below(9) {
	case 0:
		n.Kind = c.below(api.NLiteral+3) - 1
	case 1:
		n.Text = pick(c, []string{"", "x", "+", "func", "int", "g", "Lock", "\xff"})
	case 2:
		n.Num = pick(c, numbers)
	case 3:
		n.At = pick(c, numbers)
	case 4:
		n.Type = api.Type{Kind: pick(c, numbers), Name: "x"}
	case 5:
		n.Kids = n.Kids[:c.below(len(n.Kids)+1)]
	case 6:
		n.Kids = slices.Concat(n.Kids, []api.Node{pick(c, append(n.Kids, n))})
	case 7:
		if len(n.Kids) > 0 {
			n = pick(c, n.Kids)
		}
	default:
		l := slices.Clone(n.Kids)
		for i := range l {
			k := c.below(i + 1)
			l[i], l[k] = l[k], l[i]
		}
		n.Kids = l
	}
	return n
}

// P11.1 and P1: changed files are compiled to valid programs, or rejected.
func TestChangedFiles(t *testing.T) {
	w := &author{chooser: &chooser{state: 43}, literals: true}
	results := map[api.Errno]int{}
	for _, s := range texts(12, w) {
		for range 20 {
			f := damaged(parsed(t, s), w.chooser)
			p, e := Compile(f)
			results[e]++
			if e == api.OK && !code.Valid(p) || e != api.OK && !code.Equal(p, api.Program{}) {
				t.Fatalf("%s\n%v", syntax.Print(f), e)
			}
		}
	}
	if results[api.OK] < 100 || results[api.ErrArg] < 300 || len(results) > 3 {
		t.Error(results)
	}
}

// P1: trees that contain themselves, and trees with many levels, are rejected.
func TestEndlessFiles(t *testing.T) {
	for kind := -1; kind <= api.NLiteral+1; kind++ {
		for count := range 3 {
			round := make([]api.Node, count+1)
			for i := range round {
				round[i] = api.Node{Kind: kind, Kids: round}
			}
			for _, n := range []api.Node{round[0], {Kind: api.NFile, Kids: round}} {
				if _, e := Compile(n); e != api.ErrArg {
					t.Error(kind, count, e)
				}
			}
		}
	}
	n := parsed(t, "func main() { }")
	inner := &n.Kids[0].Kids[2]
	for range 1 << 16 {
		inner.Kids = []api.Node{{Kind: api.NBlock}}
		inner = &inner.Kids[0]
	}
	if _, e := Compile(n); e != api.ErrArg {
		t.Error(e)
	}
}
