package link

import (
	"math/rand/v2"
	"slices"

	"interleave/api"
	"interleave/code"
)

// entry is a visible instruction of a goroutine with its operands, or a fault. Ready is the number of goroutines that could be picked.
type entry struct {
	g, op, fn, pc, fault, ready int
	a, b                        api.Value
}

// run is a run of a program on a machine with all that linking can change: functions, closures, global variables and objects. Nobody
// waits: what channels and synchronization variables answer follows from what has happened so far.
type run struct {
	p       api.Program
	objects [][]api.Value
	gs      []*goroutine
	output  []int
	log     []entry
}

type goroutine struct {
	frames []api.Frame
	fault  int
}

// runOf runs a program for at most some steps. The seed picks the goroutines.
func runOf(p api.Program, seed uint64, steps int) *run {
	x := &run{p: p, objects: [][]api.Value{nil}}
	for _, g := range p.Globals {
		x.objects[0] = append(x.objects[0], zeroOf(g.Kind))
	}
	x.start(p.Main, nil)
	picks := rand.New(rand.NewPCG(seed, 0))
	for range steps {
		var ready []int
		for n, g := range x.gs {
			if g.fault == api.FaultNone && len(g.frames) > 0 {
				ready = append(ready, n)
			}
		}
		if len(ready) == 0 {
			break
		}
		x.do(ready[picks.IntN(len(ready))], len(ready))
	}
	return x
}

func zeroOf(kind int) api.Value { return api.Value{Kind: kind} }

func integerOf(v api.Value) int {
	if v.Kind == api.VInt {
		return v.N
	}
	return 0
}

func (x *run) start(fn int, args []api.Value) {
	g := &goroutine{}
	x.gs = append(x.gs, g)
	x.enter(g, fn, args, -1)
	x.settle(len(x.gs) - 1)
}

func (x *run) enter(g *goroutine, fn int, args []api.Value, dest int) {
	if len(g.frames) == api.MaxFrames {
		g.fault = api.FaultMemory
		return
	}
	f := api.Frame{Fn: fn, Dest: dest, Regs: make([]api.Value, x.p.Funcs[fn].Regs)}
	copy(f.Regs, args)
	g.frames = append(g.frames, f)
}

// settle executes local instructions up to a visible one.
func (x *run) settle(n int) {
	g := x.gs[n]
	for range api.MaxLocal {
		if g.fault != api.FaultNone || len(g.frames) == 0 {
			break
		}
		f := &g.frames[len(g.frames)-1]
		in := x.p.Funcs[f.Fn].Code[f.PC]
		if code.Visible(in.Op) {
			return
		}
		f.PC++
		x.local(g, f, in)
	}
	if g.fault == api.FaultNone && len(g.frames) > 0 {
		g.fault = api.FaultFuel
	}
	if g.fault != api.FaultNone {
		x.log = append(x.log, entry{g: n, fault: g.fault})
	}
}

// cell returns the cell of a reference, nil if there is none.
func (x *run) cell(v api.Value) *api.Value {
	if v.Kind != api.VRef || v.Off < 0 || v.Off >= len(x.objects[v.N]) {
		return nil
	}
	return &x.objects[v.N][v.Off]
}

// closure returns the function of a closure, -1 if a value is none.
func (x *run) closure(v api.Value) int {
	v.Off = 0
	if c := x.cell(v); c != nil && c.Kind == api.VInt && c.N >= 0 && c.N < len(x.p.Funcs) && x.p.Funcs[c.N].Params == 1 {
		return c.N
	}
	return -1
}

func (x *run) alloc(cells []api.Value) api.Value {
	x.objects = append(x.objects, cells)
	return api.Value{Kind: api.VRef, N: len(x.objects) - 1}
}

// leave ends a function, or calls one of those that it has deferred first.
func (x *run) leave(g *goroutine, result api.Value) {
	f := &g.frames[len(g.frames)-1]
	if last := len(f.Defers) - 1; last >= 0 {
		d := f.Defers[last]
		f.Defers = f.Defers[:last]
		f.PC-- // back to the return
		x.enter(g, d.Fn, d.Args, -1)
		return
	}
	g.frames = g.frames[:len(g.frames)-1]
	if len(g.frames) > 0 && f.Dest >= 0 {
		g.frames[len(g.frames)-1].Regs[f.Dest] = result
	}
}

// local executes a local instruction.
func (x *run) local(g *goroutine, f *api.Frame, in api.Instr) {
	r := func(n int) api.Value { return f.Regs[n] }
	switch in.Op {
	case api.OpConst:
		f.Regs[in.A] = api.Value{N: in.B}
	case api.OpNil:
		f.Regs[in.A] = api.Value{Kind: api.VNil}
	case api.OpMove:
		f.Regs[in.A] = r(in.B)
	case api.OpAdd:
		f.Regs[in.A] = api.Value{N: integerOf(r(in.B)) + integerOf(r(in.C))}
	case api.OpLt:
		f.Regs[in.A] = api.Value{}
		if integerOf(r(in.B)) < integerOf(r(in.C)) {
			f.Regs[in.A].N = 1
		}
	case api.OpJump:
		f.PC = in.C
	case api.OpJumpZ:
		if integerOf(r(in.A)) == 0 {
			f.PC = in.C
		}
	case api.OpCall:
		x.enter(g, in.B, registers(f, in.C, x.p.Funcs[in.B].Params), in.A)
	case api.OpDefer:
		f.Defers = append(f.Defers, api.Deferred{Fn: in.B, Args: registers(f, in.C, x.p.Funcs[in.B].Params)})
	case api.OpCallC, api.OpDeferC:
		fn := x.closure(r(in.A))
		switch {
		case fn < 0:
			g.fault = api.FaultNil
		case in.Op == api.OpCallC:
			x.enter(g, fn, registers(f, in.A, 1), -1)
		default:
			f.Defers = append(f.Defers, api.Deferred{Fn: fn, Args: registers(f, in.A, 1)})
		}
	case api.OpReturn:
		result := api.Value{}
		if in.A >= 0 {
			result = r(in.A)
		}
		x.leave(g, result)
	default:
		x.refer(g, f, in)
	}
}

// registers returns the values of consecutive registers.
func registers(f *api.Frame, first, count int) []api.Value {
	return slices.Clone(f.Regs[first : first+count])
}

// refer executes an instruction that concerns objects.
func (x *run) refer(g *goroutine, f *api.Frame, in api.Instr) {
	v := api.Value{Kind: api.VRef}
	switch in.Op {
	case api.OpGlobal:
		v.Off = in.B
	case api.OpNew:
		var l []api.Value
		for _, kind := range x.p.Layouts[in.B] {
			l = append(l, zeroOf(kind))
		}
		v = x.alloc(l)
	case api.OpClosure:
		v = x.alloc(append([]api.Value{{N: in.B}}, f.Regs[in.A+1:in.A+1+in.C]...))
	case api.OpLen:
		if f.Regs[in.B].Kind == api.VRef {
			v = api.Value{N: len(x.objects[f.Regs[in.B].N])}
		}
	case api.OpField:
		v = f.Regs[in.B]
		v.Off += in.C
		if x.cell(v) == nil {
			g.fault = api.FaultIndex
		}
	case api.OpCap:
		at := f.Regs[0]
		at.Off = in.B + 1
		if c := x.cell(at); c != nil {
			v = *c
		} else {
			g.fault = api.FaultIndex
		}
	default:
		g.fault = api.FaultSize
	}
	if g.fault == api.FaultNone {
		f.Regs[in.A] = v
	}
}

// do executes the visible instruction at which a goroutine is, and the local ones behind it.
func (x *run) do(n, ready int) {
	g := x.gs[n]
	f := &g.frames[len(g.frames)-1]
	in := x.p.Funcs[f.Fn].Code[f.PC]
	now := entry{g: n, op: in.Op, fn: f.Fn, pc: f.PC, ready: ready}
	f.PC++
	r := func(n int) api.Value { return f.Regs[min(max(n, 0), len(f.Regs)-1)] }
	now.a, now.b = r(in.A), r(in.B)
	fn, args := -1, []api.Value(nil)
	switch in.Op {
	case api.OpLoad:
		now.a = api.Value{}
		if c := x.cell(now.b); c != nil {
			f.Regs[in.A] = *c
		} else {
			g.fault = api.FaultNil
		}
	case api.OpStore:
		if c := x.cell(now.a); c != nil {
			*c = now.b
		} else {
			g.fault = api.FaultNil
		}
	case api.OpPrint:
		now.b = api.Value{}
		x.output = append(x.output, integerOf(now.a))
	case api.OpGo:
		now.a, now.b = api.Value{}, api.Value{}
		fn, args = in.B, registers(f, in.C, x.p.Funcs[in.B].Params)
	case api.OpGoC:
		now.b = api.Value{}
		if fn, args = x.closure(now.a), []api.Value{now.a}; fn < 0 {
			g.fault = api.FaultNil
		}
	case api.OpRecv:
		if in.A >= 0 {
			f.Regs[in.A] = api.Value{N: len(x.log)}
		}
	}
	x.log = append(x.log, now)
	x.settle(n)
	if fn >= 0 && len(x.gs) < api.MaxGoroutines {
		x.start(fn, args)
	}
}
