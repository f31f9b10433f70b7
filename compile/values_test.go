package compile

import (
	"interleave/api"
	"interleave/capture"
)

// value evaluates an expression.
func (x *walker) value(a *activation, n *api.Node) api.Value {
	x.budget += 4
	switch n.Kind {
	case api.NInt, api.NBool:
		return api.Value{N: n.Num}
	case api.NNil:
		return api.Value{Kind: api.VNil}
	case api.NName:
		return x.name(a, n)
	case api.NMember:
		return x.do(n, api.OpLoad, x.field(n, x.value(a, &n.Kids[0])))
	case api.NIndex:
		s := x.value(a, &n.Kids[0])
		return x.do(n, api.OpLoad, x.element(s, x.value(a, &n.Kids[1])))
	case api.NBinary:
		return x.binary(a, n)
	case api.NNew:
		var o api.Object
		for _, f := range x.t.structs[n.Text].Kids {
			o.Cells = append(o.Cells, zeroOf(kindOfNode(f.Kids[0])))
		}
		return x.alloc(o)
	case api.NLiteral:
		return x.literal(a, n)
	case api.NCall:
		return x.calling(a, n)
	}
	return x.operation(n, x.value(a, &n.Kids[0]))
}

// kindOfNode returns the kind of the cells of a type in the file.
func kindOfNode(n api.Node) int {
	switch {
	case n.Kind == api.NPointer, n.Text == "[]int", n.Text == "chan", n.Text == "func":
		return api.CellRef
	}
	return api.CellInt
}

func (x *walker) name(a *activation, n *api.Node) api.Value {
	switch {
	case n.Ref == api.RefFunc:
		return x.alloc(api.Object{Cells: []api.Value{{N: x.t.wrappers[n.Num]}}})
	case isRegister(a, n):
		return a.vars[n.Num]
	}
	return x.do(n, api.OpLoad, cellOfName(a, n))
}

// operation evaluates an expression with one operand.
func (x *walker) operation(n *api.Node, v api.Value) api.Value {
	switch n.Kind {
	case api.NUnary:
		if n.Text == "!" {
			return truth(v.N == 0)
		}
		return api.Value{N: -v.N}
	case api.NReceive:
		return x.do(n, api.OpRecv, v)
	case api.NLen:
		if v.Kind == api.VNil {
			return api.Value{}
		}
		return api.Value{N: len(x.w.objects[v.N].Cells)}
	}
	x.require(v.N >= 0 && v.N <= api.MaxCells, api.FaultSize)
	if n.Kind == api.NChan {
		return x.alloc(api.Object{Chan: true, Cap: v.N})
	}
	return x.alloc(api.Object{Cells: make([]api.Value, v.N)})
}

func (x *walker) binary(a *activation, n *api.Node) api.Value {
	l := x.value(a, &n.Kids[0])
	if n.Text == "&&" && l.N == 0 || n.Text == "||" && l.N == 1 {
		return l
	}
	r := x.value(a, &n.Kids[1])
	switch n.Text {
	case "&&", "||":
		return r
	case "==":
		return truth(l == r)
	case "!=":
		return truth(l != r)
	case "<":
		return truth(l.N < r.N)
	case "<=":
		return truth(l.N <= r.N)
	case ">":
		return truth(l.N > r.N)
	case ">=":
		return truth(l.N >= r.N)
	case "+":
		return api.Value{N: l.N + r.N}
	case "-":
		return api.Value{N: l.N - r.N}
	case "*":
		return api.Value{N: l.N * r.N}
	}
	x.require(r.N != 0, api.FaultDivide)
	if n.Text == "/" {
		return api.Value{N: l.N / r.N}
	}
	return api.Value{N: l.N % r.N}
}

func (x *walker) literal(a *activation, n *api.Node) api.Value {
	o := api.Object{Cells: []api.Value{{N: x.t.numbers[n]}}}
	for _, c := range capture.Captures(*n) {
		x.budget++
		if c.Up == 1 {
			o.Cells = append(o.Cells, a.vars[c.Num])
		} else {
			o.Cells = append(o.Cells, a.captured[api.Capture{Up: c.Up - 1, Num: c.Num}])
		}
	}
	return x.alloc(o)
}

// isMethodCall reports whether a call is that of a method of a synchronization variable.
func isMethodCall(call *api.Node) bool {
	callee := call.Kids[0]
	return callee.Kind == api.NMember && callee.Kids[0].Type.Kind >= api.TMutex
}

func (x *walker) calling(a *activation, n *api.Node) api.Value {
	callee := &n.Kids[0]
	switch {
	case callee.Kind == api.NName && callee.Ref == api.RefFunc:
		return x.call(x.t.starts[callee.Num], x.arguments(a, n))
	case isMethodCall(n):
		address := x.receiver(a, &callee.Kids[0])
		return x.perform(n, address, x.arguments(a, n))
	}
	x.callClosure(x.value(a, callee))
	return api.Value{}
}

// receiver returns the address of the receiver of a method.
func (x *walker) receiver(a *activation, n *api.Node) api.Value {
	if n.Kind == api.NName {
		return api.Value{Kind: api.VRef, Off: n.Num}
	}
	return x.field(n, x.value(a, &n.Kids[0]))
}

// perform performs a method.
func (x *walker) perform(n *api.Node, address api.Value, args []api.Value) api.Value {
	simple := map[string]int{
		"Lock": api.OpLock, "Unlock": api.OpUnlock, "RLock": api.OpRLock, "RUnlock": api.OpRUnlock, "Wait": api.OpWait,
		"Load": api.OpALoad, "Store": api.OpAStore, "CompareAndSwap": api.OpACas, "Add": api.OpAAdd, "Done": api.OpGroup, "Do": api.OpOnce,
	}
	op := simple[n.Kids[0].Text]
	switch {
	case n.Kids[0].Text == "Done":
		args = []api.Value{{N: -1}}
	case op == api.OpAAdd && n.Kids[0].Kids[0].Type.Kind == api.TGroup:
		op = api.OpGroup
	case op == api.OpOnce:
		if x.visible(n, request{op: op, a: address}).number == 0 {
			x.callClosure(args[0])
			x.do(n, api.OpOnceEnd, address)
		}
		return api.Value{}
	}
	return x.do(n, op, append([]api.Value{address}, args...)...)
}
