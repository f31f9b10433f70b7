package compile

import (
	"interleave/api"
	"interleave/types"
)

// variables are the variables that a function uses, other than global ones.
type variables struct {
	locals   []api.Local
	places   []int               // the register of each local variable: it contains the value, or the object of a boxed variable
	captured map[api.Capture]int // the numbers of the captured values
}

func newVariables(f function) variables {
	v := variables{locals: f.locals, places: make([]int, len(f.locals)), captured: map[api.Capture]int{}}
	for i, c := range f.captures {
		v.captured[c] = i
	}
	return v
}

// place returns the register of a variable that is declared next. Parameters have the first registers.
func (g *generator) place(n *api.Node) int {
	if g.locals[n.Num].Param {
		return n.Num
	}
	return g.next
}

// declare generates the declaration of a variable with a value; the value is evaluated into the register that value returns.
func (g *generator) declare(n *api.Node, value func() int) {
	register, next := g.place(n), g.next
	if v := value(); g.locals[n.Num].Boxed {
		g.box(n, register, v)
	} else if v != register {
		g.emit(n, api.OpMove, register, v, 0)
	}
	g.settle(n, register, next)
}

// declareZero generates the declaration of a variable without a value.
func (g *generator) declareZero(n *api.Node) {
	register, next := g.place(n), g.next
	switch v := g.locals[n.Num]; {
	case v.Boxed:
		g.allocate(n, register)
	case types.Cell(v.Type) == api.CellRef:
		g.emit(n, api.OpNil, register, 0, 0)
	default:
		g.emit(n, api.OpConst, register, 0, 0)
	}
	g.settle(n, register, next)
}

// settle makes a register that of a variable; of the registers from next on, no other one remains in use.
func (g *generator) settle(n *api.Node, register, next int) {
	g.places[n.Num] = register
	g.next = next
	if register == next {
		g.fresh()
	}
}

// allocate generates the allocation of the object of a boxed variable.
func (g *generator) allocate(n *api.Node, object int) {
	layout := g.boxes + types.Cell(g.locals[n.Num].Type)
	g.emit(n, api.OpNew, object, layout, 0)
}

// box generates the allocation of the object of a boxed variable with its first value, and gives it to a register. This may be the
// register of the value.
func (g *generator) box(n *api.Node, register, value int) {
	object := register
	if value == register {
		object = g.fresh()
	}
	g.allocate(n, object)
	g.store(n, object, value)
	if object != register {
		g.emit(n, api.OpMove, register, object, 0)
	}
}

// isRegister reports whether a name denotes a variable that is a register.
func (g *generator) isRegister(n *api.Node) bool {
	return n.Ref == api.RefLocal && n.Up == 0 && !g.locals[n.Num].Boxed
}

// cell generates the address of the cell of a global or boxed variable.
func (g *generator) cell(n *api.Node) int {
	switch {
	case n.Ref == api.RefGlobal:
		return g.result(n, api.OpGlobal, g.next, n.Num, 0)
	case n.Up > 0:
		return g.result(n, api.OpCap, g.next, g.captured[api.Capture{Up: n.Up, Num: n.Num}], 0)
	}
	return g.places[n.Num]
}

// literal generates the closure of a function literal. The registers behind it get the objects of the captured variables.
func (g *generator) literal(n *api.Node) int {
	register := g.fresh()
	captures := g.functions[g.inner[n]].captures
	for _, v := range captures {
		object := g.fresh()
		if outer := v.Up - 1; outer > 0 {
			g.emit(n, api.OpCap, object, g.captured[api.Capture{Up: outer, Num: v.Num}], 0)
		} else {
			g.emit(n, api.OpMove, object, g.places[v.Num], 0)
		}
	}
	return g.result(n, api.OpClosure, register, g.inner[n], len(captures))
}
