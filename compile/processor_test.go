package compile

import (
	"slices"

	"interleave/api"
	"interleave/code"
)

// processor is a process that executes compiled code, as layers 22 and 23 specify it.
type processor struct {
	w      *world
	p      api.Program
	g      int
	frames []api.Frame
	local  int // the number of local instructions so far
	fault  int
	wait   bool // whether it is at a request
}

// compiled returns the start of a program.
func compiled(p api.Program) *world {
	w := newWorld(p.Globals)
	w.closure = func(v api.Value) (int, bool) {
		o, fault := w.object(v)
		if fault != api.FaultNone || len(o.Cells) == 0 || o.Cells[0].Kind != api.VInt {
			return 0, false
		}
		fn := o.Cells[0].N
		return fn, fn >= 0 && fn < len(p.Funcs) && p.Funcs[fn].Params == 1
	}
	w.spawn = func(g, fn int, args []api.Value) process {
		x := &processor{w: w, p: p, g: g}
		x.enter(fn, args, -1)
		return x
	}
	w.start(p.Main, nil)
	return w
}

func (x *processor) top() *api.Frame { return &x.frames[len(x.frames)-1] }

func (x *processor) reg(i int) api.Value { return x.top().Regs[i] }

func (x *processor) set(i int, v api.Value) { x.top().Regs[i] = v }

func (x *processor) enter(fn int, args []api.Value, dest int) {
	if len(x.frames) >= api.MaxFrames {
		x.fault = api.FaultMemory
		return
	}
	// Registers that are not set have no influence: their values differ from call to call.
	f := api.Frame{Fn: fn, Dest: dest, Regs: make([]api.Value, x.p.Funcs[fn].Regs)}
	for i := range f.Regs {
		f.Regs[i] = api.Value{Kind: api.VInt, N: 1000 + x.local*7 + i}
	}
	copy(f.Regs, args)
	x.frames = append(x.frames, f)
}

func (x *processor) leave(result api.Value) {
	f := x.top()
	if !f.Leaving {
		f.Leaving, f.Result = true, result
	}
	for len(x.frames) > 0 && x.top().Leaving {
		f := x.top()
		if last := len(f.Defers) - 1; last >= 0 {
			d := f.Defers[last]
			f.Defers = f.Defers[:last]
			x.enter(d.Fn, d.Args, -1)
			return
		}
		x.frames = x.frames[:len(x.frames)-1]
		if len(x.frames) > 0 && f.Dest >= 0 {
			x.set(f.Dest, f.Result)
		}
	}
}

// resume finishes the visible instruction and executes the local ones behind it.
func (x *processor) resume(a answer) status {
	if x.wait {
		x.finish(a)
	}
	x.wait = false
	for steps := 0; x.fault == api.FaultNone; steps++ {
		if len(x.frames) == 0 {
			return status{ended: true}
		}
		f := x.top()
		in := x.p.Funcs[f.Fn].Code[f.PC]
		if code.Visible(in.Op) {
			x.wait = true
			return status{request: x.request(in)}
		}
		if steps == api.MaxLocal {
			x.fault = api.FaultFuel
			break
		}
		x.local++
		x.execute(in)
	}
	x.w.log = append(x.w.log, entry{g: x.g, fault: x.fault})
	return status{fault: x.fault}
}

// finish sets the registers of a visible instruction and continues behind it.
func (x *processor) finish(a answer) {
	f := x.top()
	in := x.p.Funcs[f.Fn].Code[f.PC]
	f.PC++
	switch in.Op {
	case api.OpLoad, api.OpALoad, api.OpAAdd, api.OpACas:
		x.set(in.A, a.value)
	case api.OpRecv:
		if in.A >= 0 {
			x.set(in.A, a.value)
		}
		if in.C >= 0 {
			x.set(in.C, api.Value{N: 1}) // whether the value was sent does not matter to compiled programs
		}
	case api.OpOnce:
		if a.number == 1 {
			f.PC = in.C
		}
	case api.OpSelect:
		x.set(in.A, api.Value{N: a.number})
		if a.number < in.B {
			if c := x.p.Funcs[f.Fn].Code[f.PC+a.number]; c.B == 0 && c.C >= 0 {
				x.set(c.C, a.value)
			}
		}
		f.PC += in.B
	}
}

// arguments returns the arguments of a function in registers.
func (x *processor) arguments(fn, first int) []api.Value {
	return slices.Clone(x.top().Regs[first : first+x.p.Funcs[fn].Params])
}

// request returns the operands of a visible instruction. Those that the operation does not have are zero.
func (x *processor) request(in api.Instr) request {
	r := request{op: in.Op, at: in.At}
	switch in.Op {
	case api.OpLoad, api.OpALoad, api.OpRecv:
		r.a = x.reg(in.B)
	case api.OpStore, api.OpAStore, api.OpGroup, api.OpSend:
		r.a, r.b = x.reg(in.A), x.reg(in.B)
	case api.OpAAdd:
		r.a, r.b = x.reg(in.B), x.reg(in.C)
	case api.OpACas:
		r.a, r.b, r.c = x.reg(in.B), x.reg(in.C), x.reg(in.C+1)
	case api.OpGo:
		r.fn, r.args = in.B, x.arguments(in.B, in.C)
	case api.OpSelect:
		r.hasDefault = in.C == 1
		f := x.top()
		for _, c := range x.p.Funcs[f.Fn].Code[f.PC+1 : f.PC+1+in.B] {
			o := option{at: c.At, send: c.B == 1, channel: x.reg(c.A)}
			if o.send {
				o.value = x.reg(c.C)
			}
			r.cases = append(r.cases, o)
		}
	default:
		r.a = x.reg(in.A)
	}
	return r
}

func truth(b bool) api.Value {
	if b {
		return api.Value{N: 1}
	}
	return api.Value{}
}

// execute executes a local instruction.
func (x *processor) execute(in api.Instr) {
	f := x.top()
	pc := f.PC
	f.PC++
	switch in.Op {
	case api.OpConst:
		x.set(in.A, api.Value{N: in.B})
	case api.OpNil:
		x.set(in.A, api.Value{Kind: api.VNil})
	case api.OpMove:
		x.set(in.A, x.reg(in.B))
	case api.OpNeg:
		x.set(in.A, api.Value{N: -integerOf(x.reg(in.B))})
	case api.OpNot:
		x.set(in.A, api.Value{N: 1 - integerOf(x.reg(in.B))})
	case api.OpJump:
		f.PC = in.C
	case api.OpJumpZ:
		if integerOf(x.reg(in.A)) == 0 {
			f.PC = in.C
		}
	case api.OpCall:
		x.enter(in.B, x.arguments(in.B, in.C), in.A)
	case api.OpDefer:
		f.Defers = append(f.Defers, api.Deferred{Fn: in.B, Args: x.arguments(in.B, in.C)})
	case api.OpCallC, api.OpDeferC:
		x.callClosure(in)
	case api.OpReturn:
		f.PC = pc
		result := api.Value{}
		if in.A >= 0 {
			result = x.reg(in.A)
		}
		x.leave(result)
	case api.OpNew, api.OpSlice, api.OpChan, api.OpClosure:
		x.allocate(in)
	case api.OpLen, api.OpGlobal, api.OpField, api.OpIndex, api.OpCap:
		x.refer(in)
	default:
		x.calculate(in)
	}
}

func (x *processor) callClosure(in api.Instr) {
	v := x.reg(in.A)
	fn, ok := x.w.closure(v)
	switch {
	case !ok:
		x.fault = api.FaultNil
	case in.Op == api.OpCallC:
		x.enter(fn, []api.Value{v}, -1)
	default:
		x.top().Defers = append(x.top().Defers, api.Deferred{Fn: fn, Args: []api.Value{v}})
	}
}

func (x *processor) allocate(in api.Instr) {
	var o api.Object
	switch size := 0; in.Op {
	case api.OpNew:
		for _, kind := range x.p.Layouts[in.B] {
			o.Cells = append(o.Cells, zeroOf(kind))
		}
	case api.OpClosure:
		o.Cells = append([]api.Value{{N: in.B}}, x.top().Regs[in.A+1:in.A+1+in.C]...)
	default:
		size = integerOf(x.reg(in.B))
		if size < 0 || size > api.MaxCells {
			x.fault = api.FaultSize
			return
		}
		if in.Op == api.OpChan {
			o = api.Object{Chan: true, Cap: size}
		} else {
			o.Cells = make([]api.Value, size)
		}
	}
	v, ok := x.w.alloc(x.g, o)
	if !ok {
		x.fault = api.FaultMemory
		return
	}
	x.w.log = append(x.w.log, entry{g: x.g, op: in.Op, at: in.At})
	x.set(in.A, v)
}

// refer executes an instruction that concerns references.
func (x *processor) refer(in api.Instr) {
	switch in.Op {
	case api.OpGlobal:
		x.set(in.A, api.Value{Kind: api.VRef, Off: in.B})
		return
	case api.OpCap:
		v := x.reg(0)
		v.Off = in.B + 1
		cell, fault := x.w.cell(v)
		if x.fault = fault; fault == api.FaultNone {
			x.set(in.A, *cell)
		}
		return
	}
	v := x.reg(in.B)
	switch in.Op {
	case api.OpLen:
		n := 0
		if v.Kind != api.VNil {
			o := x.w.objects[v.N]
			if v.Kind == api.VInt || o == nil {
				x.fault = api.FaultNil
				return
			}
			n = len(o.Cells)
		}
		x.set(in.A, api.Value{N: n})
		return
	case api.OpField:
		v.Off += in.C
	case api.OpIndex:
		v.Off = integerOf(x.reg(in.C))
	}
	if _, x.fault = x.w.cell(v); x.fault == api.FaultNone {
		x.set(in.A, v)
	}
}

// calculate executes an instruction with two operands.
func (x *processor) calculate(in api.Instr) {
	v, u := x.reg(in.B), x.reg(in.C)
	a, b := integerOf(v), integerOf(u)
	switch in.Op {
	case api.OpAdd:
		x.set(in.A, api.Value{N: a + b})
	case api.OpSub:
		x.set(in.A, api.Value{N: a - b})
	case api.OpMul:
		x.set(in.A, api.Value{N: a * b})
	case api.OpDiv, api.OpRem:
		switch {
		case b == 0:
			x.fault = api.FaultDivide
		case in.Op == api.OpDiv:
			x.set(in.A, api.Value{N: a / b})
		default:
			x.set(in.A, api.Value{N: a % b})
		}
	case api.OpEq:
		x.set(in.A, truth(v == u))
	case api.OpNe:
		x.set(in.A, truth(v != u))
	case api.OpLt:
		x.set(in.A, truth(a < b))
	case api.OpLe:
		x.set(in.A, truth(a <= b))
	default:
		panic(in.Op)
	}
}
