package compile

import (
	"slices"

	"interleave/api"
)

// request is a visible instruction at which a goroutine is, with the values of its operands.
type request struct {
	op, at     int
	a, b, c    api.Value
	fn         int // of OpGo, with its arguments
	args       []api.Value
	cases      []option
	hasDefault bool
}

// option is a case of a select instruction.
type option struct {
	at             int
	send           bool
	channel, value api.Value
}

// answer is what a goroutine gets from a visible instruction: a value, or whether an OpOnce is done, or the number of a case.
type answer struct {
	value  api.Value
	number int
}

// status is what a goroutine does after its local instructions: it is at the next request, unless it has ended or failed.
type status struct {
	request request
	ended   bool
	fault   int
}

// process is what runs in a goroutine: a compiled program or a syntax tree.
type process interface {
	resume(a answer) status
}

type goroutine struct {
	process
	status
	parked bool
	allocs int
}

type address struct{ obj, off, kind int }

// event is an event with the offset of its instruction.
type event struct {
	g, kind, obj, off, k, n, at int
}

// world is the state of a run: what layers 16 to 24 specify, except for what processes keep for themselves.
type world struct {
	objects map[int]*api.Object
	syncs   map[address]*api.Sync
	gs      []*goroutine
	output  []int
	events  []event
	log     []entry // of compiled programs: what they do in the order in which they do it
	spawn   func(g, fn int, args []api.Value) process
	closure func(v api.Value) (int, bool) // the function of a closure
}

// entry is a visible instruction, an allocation or a fault of a goroutine. Printed is the value that an OpPrint prints.
type entry struct{ g, op, at, fault, printed int }

func newWorld(globals []api.Global) *world {
	o := &api.Object{}
	for _, g := range globals {
		o.Cells = append(o.Cells, zeroOf(g.Kind))
	}
	return &world{objects: map[int]*api.Object{0: o}, syncs: map[address]*api.Sync{}}
}

func zeroOf(kind int) api.Value {
	if kind == api.CellRef {
		return api.Value{Kind: api.VNil}
	}
	return api.Value{}
}

func integerOf(v api.Value) int {
	if v.Kind == api.VInt {
		return v.N
	}
	return 0
}

// start starts a goroutine and lets it run up to its first request.
func (w *world) start(fn int, args []api.Value) {
	g := &goroutine{}
	w.gs = append(w.gs, g)
	g.process = w.spawn(len(w.gs)-1, fn, args)
	g.status = g.resume(answer{})
}

// alloc allocates an object for a goroutine; false if it has too many.
func (w *world) alloc(g int, o api.Object) (api.Value, bool) {
	if w.gs[g].allocs >= api.MaxAllocs {
		return api.Value{}, false
	}
	o.ID = 1 + g + api.MaxGoroutines*w.gs[g].allocs
	w.gs[g].allocs++
	w.objects[o.ID] = &o
	return api.Value{Kind: api.VRef, N: o.ID}, true
}

// object returns the object of a reference that is not a channel.
func (w *world) object(v api.Value) (*api.Object, int) {
	if v.Kind == api.VRef && w.objects[v.N] != nil && !w.objects[v.N].Chan {
		return w.objects[v.N], api.FaultNone
	}
	return nil, api.FaultNil
}

// cell returns the cell of a reference.
func (w *world) cell(v api.Value) (*api.Value, int) {
	o, fault := w.object(v)
	if fault != api.FaultNone {
		return nil, fault
	}
	if v.Off < 0 || v.Off >= len(o.Cells) {
		return nil, api.FaultIndex
	}
	return &o.Cells[v.Off], api.FaultNone
}

// channel returns the channel of a value, nil for nil, and false for anything else.
func (w *world) channel(v api.Value) (*api.Object, bool) {
	if v.Kind == api.VNil {
		return nil, true
	}
	if v.Kind == api.VRef && w.objects[v.N] != nil && w.objects[v.N].Chan {
		return w.objects[v.N], true
	}
	return nil, false
}

// sync returns the synchronization variable of a request.
func (w *world) sync(r request) *api.Sync {
	kind := api.SyncRW
	switch r.op {
	case api.OpGroup, api.OpWait:
		kind = api.SyncGroup
	case api.OpOnce, api.OpOnceEnd:
		kind = api.SyncOnce
	}
	a := address{r.a.N, r.a.Off, kind}
	if w.syncs[a] == nil {
		w.syncs[a] = &api.Sync{Owner: -1}
	}
	return w.syncs[a]
}

func (w *world) isReady(o option) bool {
	c, _ := w.channel(o.channel)
	if c == nil {
		return false
	}
	if o.send {
		return c.Closed || len(c.Receivers) > 0 || len(c.Queue) < c.Cap
	}
	return c.Closed || len(c.Senders) > 0 || len(c.Queue) > 0
}

// cases returns the cases with which a goroutine can be picked.
func (w *world) cases(n int) []int {
	g := w.gs[n]
	if g.ended || g.fault != api.FaultNone || g.parked {
		return nil
	}
	r := g.request
	switch r.op {
	case api.OpSelect:
		return w.selectCases(r)
	case api.OpSend, api.OpRecv:
		if r.a.Kind == api.VNil {
			return nil
		}
	case api.OpLock, api.OpRLock, api.OpWait, api.OpOnce:
		if _, fault := w.cell(r.a); fault == api.FaultNone && !w.canPass(r) {
			return nil
		}
	}
	return []int{0}
}

// canPass reports whether a request need not wait for a synchronization variable.
func (w *world) canPass(r request) bool {
	switch s := w.sync(r); r.op {
	case api.OpLock:
		return s.Owner < 0 && len(s.Readers) == 0
	case api.OpWait:
		return s.Count == 0
	default:
		return s.Owner < 0
	}
}

func (w *world) selectCases(r request) []int {
	var l []int
	some := r.hasDefault
	for i, o := range r.cases {
		if _, ok := w.channel(o.channel); !ok {
			return []int{0}
		}
		some = some || o.channel.Kind != api.VNil
		if w.isReady(o) {
			l = append(l, i)
		}
	}
	if len(l) == 0 && some {
		l = []int{len(r.cases)}
	}
	return l
}

func (w *world) picks() []api.Pick {
	var l []api.Pick
	for g := range w.gs {
		for _, c := range w.cases(g) {
			l = append(l, api.Pick{G: g, Case: c})
		}
	}
	return l
}

// step is what a step does: it advances goroutines with their answers, lets goroutines fail, and may start one.
type step struct {
	w       *world
	answers map[int]answer
}

// do executes a step.
func (w *world) do(p api.Pick) {
	s := step{w, map[int]answer{}}
	before := len(w.gs)
	r := w.gs[p.G].request
	w.log = append(w.log, entry{g: p.G, op: r.op, at: r.at, printed: integerOf(r.a)})
	s.perform(p.G, p.Case, r)
	for n := range before {
		if a, ok := s.answers[n]; ok && w.gs[n].fault == api.FaultNone {
			w.gs[n].parked = false
			w.gs[n].status = w.gs[n].resume(a)
		}
	}
}

func (s step) fail(g, fault int) {
	s.w.log = append(s.w.log, entry{g: g, fault: fault})
	s.w.gs[g].parked = false
	s.w.gs[g].status = status{fault: fault}
	delete(s.answers, g)
}

// note adds an event of the instruction at which a goroutine is.
func (s step) note(g, kind, obj, off, k, n int) {
	s.w.events = append(s.w.events, event{g, kind, obj, off, k, n, s.w.gs[g].request.at})
}

func (s step) perform(g, number int, r request) {
	switch r.op {
	case api.OpPrint:
		s.w.output = append(s.w.output, integerOf(r.a))
		s.answers[g] = answer{}
	case api.OpGo, api.OpGoC:
		s.spawn(g, r)
	case api.OpSend:
		s.send(g, -1, r.a, r.b)
	case api.OpRecv:
		s.receive(g, -1, r.a)
	case api.OpClose:
		s.close(g, r.a)
	case api.OpSelect:
		s.choose(g, number, r)
	default:
		s.access(g, r)
	}
}

func (s step) spawn(g int, r request) {
	fn, args := r.fn, r.args
	if r.op == api.OpGoC {
		var ok bool
		if fn, ok = s.w.closure(r.a); !ok {
			s.fail(g, api.FaultNil)
			return
		}
		args = []api.Value{r.a}
	}
	if len(s.w.gs) == api.MaxGoroutines {
		s.fail(g, api.FaultMemory)
		return
	}
	s.note(g, api.EvGo, 0, 0, len(s.w.gs), 0)
	s.w.gs[g].status = s.w.gs[g].resume(answer{})
	s.w.start(fn, args)
}

// access performs an instruction at an address.
func (s step) access(g int, r request) {
	cell, fault := s.w.cell(r.a)
	if fault != api.FaultNone {
		s.fail(g, fault)
		return
	}
	note := func(kind int) { s.note(g, kind, r.a.N, r.a.Off, 0, 0) }
	a := answer{}
	switch r.op {
	case api.OpLoad, api.OpALoad:
		note(map[int]int{api.OpLoad: api.EvRead, api.OpALoad: api.EvAtomicRead}[r.op])
		a.value = *cell
	case api.OpStore, api.OpAStore:
		note(map[int]int{api.OpStore: api.EvWrite, api.OpAStore: api.EvAtomicWrite}[r.op])
		*cell = r.b
	case api.OpAAdd:
		note(api.EvAtomicBoth)
		*cell = api.Value{N: integerOf(*cell) + integerOf(r.b)}
		a.value = *cell
	case api.OpACas:
		if *cell == r.b {
			note(api.EvAtomicBoth)
			*cell = r.c
			a.value.N = 1
		} else {
			note(api.EvAtomicRead)
		}
	default:
		a, fault = s.synchronize(g, r, note)
	}
	if fault != api.FaultNone {
		s.fail(g, fault)
		return
	}
	s.answers[g] = a
}

// synchronize performs an instruction on a synchronization variable that is possible, except for errors.
func (s step) synchronize(g int, r request, note func(kind int)) (answer, int) {
	v := s.w.sync(r)
	switch r.op {
	case api.OpLock:
		v.Owner = g
		note(api.EvLock)
	case api.OpRLock:
		v.Readers = append(v.Readers, g)
		note(api.EvRLock)
	case api.OpUnlock:
		if v.Owner < 0 {
			return answer{}, api.FaultUnlock
		}
		v.Owner = -1
		note(api.EvUnlock)
	case api.OpRUnlock:
		if len(v.Readers) == 0 {
			return answer{}, api.FaultUnlock
		}
		i := max(slices.Index(v.Readers, g), 0)
		v.Readers = slices.Delete(v.Readers, i, i+1)
		note(api.EvRUnlock)
	case api.OpGroup:
		n := integerOf(r.b)
		if n > 0 && v.Count > 1<<62-n || v.Count+n < 0 {
			return answer{}, api.FaultGroup
		}
		v.Count += n
		if n < 0 {
			note(api.EvDone)
		}
	case api.OpWait:
		note(api.EvWait)
	case api.OpOnce:
		if v.Count == 1 {
			note(api.EvOnceSeen)
			return answer{number: 1}, api.FaultNone
		}
		v.Owner = g
	case api.OpOnceEnd:
		if v.Owner < 0 {
			return answer{}, api.FaultUnlock
		}
		v.Owner, v.Count = -1, 1
		note(api.EvOnceEnd)
	}
	return answer{}, api.FaultNone
}
