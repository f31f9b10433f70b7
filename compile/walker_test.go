package compile

import (
	"iter"
	"slices"

	"interleave/api"
	"interleave/capture"
)

// walker is a process that executes a syntax tree as the chapter specifies it.
type walker struct {
	w      *world
	t      *tree
	g      int
	next   func() (request, bool)
	stop   func()
	yield  func(request) bool
	reply  answer
	fault  int
	depth  int // the number of activations
	budget int // how many local instructions the execution may have taken so far
	most   int // the budget with which it is certain that there is no fuel left
}

// activation is an activation of a function of the file or of a function literal.
type activation struct {
	locals   []api.Local
	vars     []api.Value // the value, or the object of a boxed variable
	captured map[api.Capture]api.Value
	defers   []api.Deferred
	result   api.Value
}

// failure is the fault with which a goroutine ends.
type failure int

type stopped struct{}

// walked returns the start of an annotated file. The processes have to be stopped.
func walked(t *tree) *world {
	w := newWorld(t.globals())
	w.closure = func(v api.Value) (int, bool) {
		if v.Kind == api.VNil {
			return 0, false
		}
		return w.objects[v.N].Cells[0].N, true
	}
	w.spawn = func(g, fn int, args []api.Value) process {
		x := &walker{w: w, t: t, g: g}
		x.next, x.stop = iter.Pull(x.run(fn, args))
		return x
	}
	w.start(t.main(), nil)
	return w
}

func (w *world) stop() {
	for _, g := range w.gs {
		g.process.(*walker).stop()
	}
}

// run yields the requests of a goroutine.
func (x *walker) run(fn int, args []api.Value) iter.Seq[request] {
	return func(yield func(request) bool) {
		x.yield = yield
		defer func() {
			switch r := recover().(type) {
			case failure:
				x.fault = int(r)
			case stopped, nil:
			default:
				panic(r)
			}
		}()
		x.call(fn, args)
	}
}

func (x *walker) resume(a answer) status {
	x.reply, x.most = a, x.budget+100*api.MaxLocal
	r, ok := x.next()
	if !ok {
		return status{ended: x.fault == api.FaultNone, fault: x.fault}
	}
	return status{request: r}
}

// visible performs a visible instruction at a node.
func (x *walker) visible(n *api.Node, r request) answer {
	r.at = max(n.At, 0)
	if !x.yield(r) {
		panic(stopped{})
	}
	return x.reply
}

func (x *walker) do(n *api.Node, op int, l ...api.Value) api.Value {
	l = append(l, api.Value{}, api.Value{}, api.Value{})
	return x.visible(n, request{op: op, a: l[0], b: l[1], c: l[2]}).value
}

func (x *walker) require(holds bool, fault int) {
	if !holds {
		panic(failure(fault))
	}
}

func (x *walker) alloc(o api.Object) api.Value {
	v, ok := x.w.alloc(x.g, o)
	x.require(ok, api.FaultMemory)
	return v
}

// call calls a function of the program.
func (x *walker) call(fn int, args []api.Value) api.Value {
	x.require(x.depth < api.MaxFrames, api.FaultMemory)
	x.depth++
	v := x.t.routines[fn].run(x, args)
	x.depth--
	return v
}

func (x *walker) callClosure(v api.Value) {
	fn, ok := x.w.closure(v)
	x.require(ok, api.FaultNil)
	x.call(fn, []api.Value{v})
}

// enter executes a function that the file declares, or a literal.
func (x *walker) enter(fn, body *api.Node, args []api.Value) api.Value {
	x.budget += 3 + 2*len(args)
	a := &activation{locals: capture.Locals(*fn), captured: map[api.Capture]api.Value{}}
	a.vars = make([]api.Value, len(a.locals))
	if fn.Kind == api.NLiteral {
		for i, c := range capture.Captures(*fn) {
			a.captured[c] = x.w.objects[args[0].N].Cells[i+1]
		}
	} else {
		for i := range fn.Kids[0].Kids {
			x.declare(a, &fn.Kids[0].Kids[i], &args[i])
		}
	}
	x.statements(a, body)
	for _, d := range slices.Backward(a.defers) {
		x.call(d.Fn, d.Args)
	}
	return a.result
}

// declare executes the declaration of a variable with a value, or without one.
func (x *walker) declare(a *activation, n *api.Node, value *api.Value) {
	v := a.locals[n.Num]
	zero := zeroOf(kindOf(v.Type))
	switch {
	case v.Boxed:
		a.vars[n.Num] = x.alloc(api.Object{Cells: []api.Value{zero}})
		if value != nil {
			x.do(n, api.OpStore, a.vars[n.Num], *value)
		}
	case value != nil:
		a.vars[n.Num] = *value
	default:
		a.vars[n.Num] = zero
	}
}

// kindOf returns the kind of the cells of a type.
func kindOf(t api.Type) int {
	switch t.Kind {
	case api.TPointer, api.TSlice, api.TChan, api.TFunc:
		return api.CellRef
	}
	return api.CellInt
}

// statements executes the statements of a block, and reports whether the function returns.
func (x *walker) statements(a *activation, block *api.Node) bool {
	for i := range block.Kids {
		if x.statement(a, &block.Kids[i]) {
			return true
		}
	}
	return false
}

func (x *walker) statement(a *activation, n *api.Node) bool {
	x.budget += 4
	x.require(x.budget < x.most, api.FaultFuel)
	k := n.Kids
	switch n.Kind {
	case api.NVar:
		if k[1].Kind == api.NNone {
			x.declare(a, n, nil)
			return false
		}
		v := x.value(a, &k[1])
		x.declare(a, n, &v)
	case api.NDefine:
		v := x.value(a, &k[0])
		x.declare(a, n, &v)
	case api.NAssign:
		assign := x.target(a, &k[0])
		assign(x.value(a, &k[1]))
	case api.NExpr:
		x.value(a, &k[0])
	case api.NGo, api.NDefer:
		x.later(a, n, &k[0])
	case api.NSend:
		c := x.value(a, &k[0])
		x.do(n, api.OpSend, c, x.value(a, &k[1]))
	case api.NClose:
		x.do(n, api.OpClose, x.value(a, &k[0]))
	case api.NPrint:
		x.do(n, api.OpPrint, x.value(a, &k[0]))
	case api.NReturn:
		if len(k) > 0 {
			a.result = x.value(a, &k[0])
		}
		return true
	case api.NBlock:
		return x.statements(a, n)
	case api.NSelect:
		return x.choice(a, n)
	default:
		return x.control(a, n)
	}
	return false
}

func (x *walker) control(a *activation, n *api.Node) bool {
	if n.Kind == api.NIf {
		switch {
		case x.value(a, &n.Kids[0]).N == 1:
			return x.statements(a, &n.Kids[1])
		case n.Kids[2].Kind == api.NNone:
			return false
		}
		return x.statement(a, &n.Kids[2])
	}
	for n.Kids[0].Kind == api.NNone || x.value(a, &n.Kids[0]).N == 1 {
		x.budget += 4
		x.require(x.budget < x.most, api.FaultFuel)
		if x.statements(a, &n.Kids[1]) {
			return true
		}
	}
	return false
}

// target evaluates the operands of a target, and returns a function that assigns a value to it.
func (x *walker) target(a *activation, n *api.Node) func(v api.Value) {
	x.budget += 4
	switch n.Kind {
	case api.NMember:
		p := x.value(a, &n.Kids[0])
		return func(v api.Value) { x.do(n, api.OpStore, x.field(n, p), v) }
	case api.NIndex:
		s := x.value(a, &n.Kids[0])
		i := x.value(a, &n.Kids[1])
		return func(v api.Value) { x.do(n, api.OpStore, x.element(s, i), v) }
	}
	return func(v api.Value) {
		if isRegister(a, n) {
			a.vars[n.Num] = v
		} else {
			x.do(n, api.OpStore, cellOfName(a, n), v)
		}
	}
}

func isRegister(a *activation, n *api.Node) bool {
	return n.Ref == api.RefLocal && n.Up == 0 && !a.locals[n.Num].Boxed
}

// cellOfName returns the address of a global or boxed variable.
func cellOfName(a *activation, n *api.Node) api.Value {
	switch {
	case n.Ref == api.RefGlobal:
		return api.Value{Kind: api.VRef, Off: n.Num}
	case n.Up > 0:
		return a.captured[api.Capture{Up: n.Up, Num: n.Num}]
	}
	return a.vars[n.Num]
}

// field returns the address of the field that a member denotes.
func (x *walker) field(n *api.Node, p api.Value) api.Value {
	for i, f := range x.t.structs[n.Kids[0].Type.Name].Kids {
		if f.Text == n.Text {
			p.Off += i
		}
	}
	return x.checked(p)
}

func (x *walker) element(s, i api.Value) api.Value {
	s.Off = i.N
	return x.checked(s)
}

// checked returns an address if it has a cell.
func (x *walker) checked(v api.Value) api.Value {
	_, fault := x.w.cell(v)
	x.require(fault == api.FaultNone, fault)
	return v
}

// later executes a go statement or a defer statement.
func (x *walker) later(a *activation, n, call *api.Node) {
	x.budget += 4
	callee := &call.Kids[0]
	d := api.Deferred{}
	switch {
	case callee.Kind == api.NName && callee.Ref == api.RefFunc:
		d = api.Deferred{Fn: x.t.starts[callee.Num], Args: x.arguments(a, call)}
	case isMethodCall(call):
		cells := []api.Value{{N: x.t.numbers[n]}, x.receiver(a, &callee.Kids[0])}
		d.Args = []api.Value{x.alloc(api.Object{Cells: append(cells, x.arguments(a, call)...)})}
	default:
		d.Args = []api.Value{x.value(a, callee)}
	}
	byClosure := callee.Ref != api.RefFunc
	switch {
	case n.Kind == api.NGo && byClosure:
		x.do(n, api.OpGoC, d.Args[0])
		return
	case n.Kind == api.NGo:
		x.visible(n, request{op: api.OpGo, fn: d.Fn, args: d.Args})
		return
	case byClosure:
		fn, ok := x.w.closure(d.Args[0])
		x.require(ok, api.FaultNil)
		d.Fn = fn
	}
	a.defers = append(a.defers, d)
}

func (x *walker) arguments(a *activation, call *api.Node) []api.Value {
	var l []api.Value
	for i := range call.Kids[1:] {
		l = append(l, x.value(a, &call.Kids[i+1]))
	}
	return l
}

// choice executes a select statement.
func (x *walker) choice(a *activation, n *api.Node) bool {
	r := request{op: api.OpSelect}
	var chosen []*api.Node
	var ordinary *api.Node
	for i := range n.Kids {
		c := &n.Kids[i]
		comm := &c.Kids[0]
		o := option{at: max(c.At, 0)}
		switch comm.Kind {
		case api.NNone:
			r.hasDefault, ordinary = true, c
			continue
		case api.NSend:
			o.send, o.channel = true, x.value(a, &comm.Kids[0])
			o.value = x.value(a, &comm.Kids[1])
		default:
			receive := &comm.Kids[len(comm.Kids)-1]
			o.channel = x.value(a, &receive.Kids[0])
		}
		r.cases, chosen = append(r.cases, o), append(chosen, c)
	}
	got := x.visible(n, r)
	c := append(chosen, ordinary)[got.number]
	x.budget += 4
	switch comm := &c.Kids[0]; comm.Kind {
	case api.NDefine:
		x.budget += 4
		x.declare(a, comm, &got.value)
	case api.NAssign:
		x.budget += 4
		x.target(a, &comm.Kids[0])(got.value)
	}
	return x.statements(a, &c.Kids[1])
}
