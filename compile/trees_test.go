package compile

import (
	"strconv"
	"testing"

	"interleave/api"
	"interleave/check"
	"interleave/parse"
	"interleave/syntax"
)

// routine is a function of the program that a file specifies.
type routine struct {
	name   string
	params int
	run    func(x *walker, args []api.Value) api.Value
}

// tree is an annotated file with its functions.
type tree struct {
	file     *api.Node
	routines []routine
	starts   []int             // the routines of the declared functions
	numbers  map[*api.Node]int // the routines of literals and of go and defer statements
	wrappers map[int]int       // the routines of the wrappers of declared functions
	structs  map[string]*api.Node
}

func newTree(file api.Node) *tree {
	t := &tree{file: &file, numbers: map[*api.Node]int{}, wrappers: map[int]int{}, structs: map[string]*api.Node{}}
	for i := range file.Kids {
		switch n := &file.Kids[i]; n.Kind {
		case api.NStruct:
			t.structs[n.Text] = n
		case api.NFunc:
			t.starts = append(t.starts, len(t.routines))
			t.add(n.Text, len(n.Kids[0].Kids), func(x *walker, args []api.Value) api.Value { return x.enter(n, &n.Kids[2], args) })
			count := 0
			t.nested(n, n.Text, &count)
		}
	}
	for i, number := range t.starts {
		if t.isValue(*t.file, i, false) {
			t.wrappers[i] = len(t.routines)
			t.add(t.routines[number].name+".0", 1, func(x *walker, args []api.Value) api.Value {
				x.budget += 5
				return x.call(number, nil)
			})
		}
	}
	return t
}

func (t *tree) add(name string, params int, run func(x *walker, args []api.Value) api.Value) {
	t.routines = append(t.routines, routine{name, params, run})
}

// nested adds the inner functions within a node; outer is the function in which they are nested, and count the number of those that
// are directly nested in it.
func (t *tree) nested(n *api.Node, outer string, count *int) {
	for i := range n.Kids {
		k := &n.Kids[i]
		if (k.Kind == api.NGo || k.Kind == api.NDefer) && isMethodCall(&k.Kids[0]) {
			*count++
			t.numbers[k] = len(t.routines)
			t.add(outer+"."+strconv.Itoa(*count), 1, func(x *walker, args []api.Value) api.Value {
				x.budget += 5
				cells := x.w.objects[args[0].N].Cells
				return x.perform(&k.Kids[0], cells[1], cells[2:])
			})
		}
		if k.Kind != api.NLiteral {
			t.nested(k, outer, count)
			continue
		}
		*count++
		name, within := outer+"."+strconv.Itoa(*count), 0
		t.numbers[k] = len(t.routines)
		t.add(name, 1, func(x *walker, args []api.Value) api.Value { return x.enter(k, &k.Kids[0], args) })
		t.nested(k, name, &within)
	}
}

// isValue reports whether the name of a function is a value within a node.
func (t *tree) isValue(n api.Node, num int, isCallee bool) bool {
	if n.Kind == api.NName && n.Ref == api.RefFunc && n.Num == num && !isCallee {
		return true
	}
	for i, k := range n.Kids {
		if t.isValue(k, num, n.Kind == api.NCall && i == 0) {
			return true
		}
	}
	return false
}

func (t *tree) main() int {
	for i, r := range t.routines {
		if r.name == "main" {
			return i
		}
	}
	return -1
}

func (t *tree) globals() []api.Global {
	var l []api.Global
	for _, n := range t.file.Kids {
		if n.Kind == api.NVar {
			l = append(l, api.Global{Name: n.Text, Kind: kindOfNode(n.Kids[0])})
		}
	}
	return l
}

func (t *tree) layouts() [][]int {
	var l [][]int
	for _, n := range t.file.Kids {
		if n.Kind == api.NStruct {
			var kinds []int
			for _, f := range n.Kids {
				kinds = append(kinds, kindOfNode(f.Kids[0]))
			}
			l = append(l, kinds)
		}
	}
	return append(l, []int{api.CellInt}, []int{api.CellRef})
}

// parsed returns the tree of a text.
func parsed(t *testing.T, s string) api.Node {
	t.Helper()
	n, at, e := parse.Parse(s)
	if e != api.OK {
		t.Fatalf("%s\n%d %v", s, at, e)
	}
	return n
}

// annotated returns the annotated file of a file.
func annotated(t *testing.T, f api.Node) api.Node {
	t.Helper()
	n, at, e := check.Check(f)
	if e != api.OK {
		t.Fatalf("%.2000s\n%d %v", syntax.Print(f), at, e)
	}
	return n
}

// accepted returns the program of a file.
func accepted(t *testing.T, f api.Node) api.Program {
	t.Helper()
	p, e := Compile(f)
	if e != api.OK {
		t.Fatalf("%.3000s\n%v", syntax.Print(f), e)
	}
	return p
}
