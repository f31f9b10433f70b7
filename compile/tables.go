package compile

import (
	"strconv"

	"interleave/api"
	"interleave/capture"
	"interleave/types"
)

// tables are what the generators of all functions of a program share.
type tables struct {
	globals   []api.Global
	layouts   [][]int
	boxes     int            // the number of the layout of one integer cell; that of one reference cell follows
	structs   map[string]int // the layout of each struct
	fields    map[field]int
	functions []function
	main      int
	declared  []int             // the numbers of the functions that the file declares
	inner     map[*api.Node]int // the number of the inner function of each node that has one
	wrappers  map[int]int       // the numbers of the wrappers of declared functions
}

// field is a field of a struct.
type field struct{ of, name string }

// function is a function of the program. Its body generates the code without the return at its end. Wrappers, and the inner functions
// of methods, have no variables.
type function struct {
	name     string
	params   int
	node     *api.Node
	body     func(g *generator)
	locals   []api.Local
	captures []api.Capture
}

// newTables makes the tables of an annotated file.
func newTables(file *api.Node) *tables {
	t := &tables{structs: map[string]int{}, fields: map[field]int{}, inner: map[*api.Node]int{}, wrappers: map[int]int{}}
	for i := range file.Kids {
		switch n := &file.Kids[i]; n.Kind {
		case api.NStruct:
			t.addStruct(n)
		case api.NVar:
			t.globals = append(t.globals, api.Global{Name: n.Text, Kind: cellOf(n)})
		case api.NFunc:
			t.addDeclared(n)
		}
	}
	t.boxes = len(t.layouts)
	t.layouts = append(t.layouts, []int{api.CellInt}, []int{api.CellRef})
	t.addWrappers(file)
	return t
}

// cellOf returns the kind of the cell of a field or of a global variable.
func cellOf(n *api.Node) int {
	denoted, _ := types.Of(n.Kids[0])
	return types.Cell(denoted)
}

func (t *tables) addStruct(n *api.Node) {
	t.structs[n.Text] = len(t.layouts)
	var layout []int
	for i := range n.Kids {
		f := &n.Kids[i]
		t.fields[field{n.Text, f.Text}] = i
		layout = append(layout, cellOf(f))
	}
	t.layouts = append(t.layouts, layout)
}

// add adds a function and returns its number.
func (t *tables) add(f function) int {
	t.functions = append(t.functions, f)
	return len(t.functions) - 1
}

// params returns the numbers of parameters of the functions.
func (t *tables) params() []int {
	var l []int
	for _, f := range t.functions {
		l = append(l, f.params)
	}
	return l
}

// addDeclared adds a function that the file declares, and its inner functions.
func (t *tables) addDeclared(n *api.Node) {
	number := t.add(function{
		name: n.Text, params: len(n.Kids[0].Kids), node: n, locals: capture.Locals(*n),
		body: func(g *generator) { g.declaration(n) },
	})
	t.declared = append(t.declared, number)
	if n.Text == "main" {
		t.main = number
	}
	t.addInner(n, &nest{name: n.Text})
}

// nest is a function with the number of the inner functions found so far that are directly nested in it.
type nest struct {
	name  string
	count int
}

// addInner adds the inner functions within a node in preorder.
func (t *tables) addInner(n *api.Node, outer *nest) {
	for i := range n.Kids {
		k := &n.Kids[i]
		around := outer
		switch {
		case k.Kind == api.NLiteral:
			around = &nest{name: outer.next()}
			t.inner[k] = t.add(function{
				name: around.name, params: 1, node: k, locals: capture.Locals(*k), captures: capture.Captures(*k),
				body: func(g *generator) { g.block(&k.Kids[0]) },
			})
		case isLater(k) && isMethod(&k.Kids[0]):
			body := func(g *generator) { g.method(&k.Kids[0]) }
			t.inner[k] = t.add(function{name: outer.next(), params: 1, node: k, body: body})
		}
		t.addInner(k, around)
	}
}

// next returns the name of the next function that is directly nested.
func (n *nest) next() string {
	n.count++
	return n.name + "." + strconv.Itoa(n.count)
}

// isLater reports whether a statement has a call that is executed later.
func isLater(n *api.Node) bool { return n.Kind == api.NGo || n.Kind == api.NDefer }

// isMethod reports whether a call is that of a method: then the type of the receiver is not one that a value can have.
func isMethod(call *api.Node) bool {
	callee := &call.Kids[0]
	return callee.Kind == api.NMember && !types.Value(callee.Kids[0].Type)
}

// isNamed reports whether a call is that of a function by its name.
func isNamed(call *api.Node) bool { return call.Kids[0].Ref == api.RefFunc }

// addWrappers adds the wrappers of the functions whose names are values.
func (t *tables) addWrappers(file *api.Node) {
	used := map[int]bool{}
	findValues(file, used)
	for i, number := range t.declared {
		if used[i] {
			f := t.functions[number]
			call := func(g *generator) { g.emit(f.node, api.OpCall, -1, number, 0) }
			t.wrappers[i] = t.add(function{name: f.name + ".0", params: 1, node: f.node, body: call})
		}
	}
}

// findValues finds the numbers of the declared functions whose names are values within a node.
func findValues(n *api.Node, used map[int]bool) {
	for i := range n.Kids {
		k := &n.Kids[i]
		isCallee := n.Kind == api.NCall && i == 0
		if k.Ref == api.RefFunc && !isCallee {
			used[k.Num] = true
		}
		findValues(k, used)
	}
}
