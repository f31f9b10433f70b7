package squeeze

import (
	"slices"
	"testing"

	"interleave/api"
	"interleave/code"
)

// chooser makes choices that are the same in every run.
type chooser struct{ state uint64 }

// below returns a number from 0 to n-1.
func (c *chooser) below(n int) int {
	c.state = c.state*6364136223846793005 + 1442695040888963407
	return int(c.state>>33) % n
}

// from returns a number from a to b.
func (c *chooser) from(a, b int) int { return a + c.below(b-a+1) }

// counts of parameters of the functions that random code uses; closures are of the function with one parameter.
var paramCounts = []int{0, 1, 2, 3, 5}

// writer writes random code.
type writer struct {
	*chooser
	names    int
	captures bool // whether register 0 is the closure
	code     []api.Instr
}

func (w *writer) name() int { return w.below(w.names) }

// result returns a name that can be written.
func (w *writer) result() int {
	if w.captures {
		return w.from(1, w.names-1)
	}
	return w.name()
}

// row returns the first of some names that follow each other.
func (w *writer) row(count int) int { return w.below(w.names - count + 1) }

func (w *writer) emit(op, a, b, c int) { w.code = append(w.code, api.Instr{Op: op, A: a, B: b, C: c}) }

// maker emits an instruction that sets a name without reading others.
func (w *writer) maker(name int) {
	switch w.below(6) {
	case 0:
		w.emit(api.OpNil, name, 0, 0)
	case 1:
		w.emit(api.OpGlobal, name, w.below(3), 0)
	case 2:
		w.emit(api.OpNew, name, w.below(2), 0)
	case 3:
		if w.captures {
			w.emit(api.OpCap, name, w.below(4), 0)
			return
		}
		fallthrough
	default:
		w.emit(api.OpConst, name, w.below(3), 0)
	}
}

// jump emits a random jump. The targets are numbers of instructions that are not cases.
func (w *writer) jump(count int) {
	switch w.below(5) {
	case 0:
		w.emit(api.OpReturn, w.name(), 0, 0)
	case 1, 2:
		w.emit(api.OpJump, 0, 0, w.below(count))
	default:
		w.emit([]int{api.OpJumpZ, api.OpOnce}[w.below(2)], w.name(), 0, w.below(count))
	}
}

// instruction emits a random instruction that is not a jump.
func (w *writer) instruction() {
	unary := []int{api.OpMove, api.OpMove, api.OpMove, api.OpNeg, api.OpNot, api.OpLen, api.OpSlice, api.OpChan, api.OpLoad, api.OpALoad, api.OpMove, api.OpMove}
	binary := []int{api.OpAdd, api.OpSub, api.OpMul, api.OpDiv, api.OpRem, api.OpEq, api.OpNe, api.OpLt, api.OpLe, api.OpIndex, api.OpAAdd}
	readers := []int{api.OpStore, api.OpAStore, api.OpGroup, api.OpSend}
	single := []int{api.OpCallC, api.OpDeferC, api.OpGoC, api.OpLock, api.OpUnlock, api.OpRLock, api.OpRUnlock, api.OpWait, api.OpOnceEnd, api.OpClose, api.OpPrint, api.OpPrint}
	switch w.below(12) {
	case 0, 1:
		w.maker(w.result())
	case 2, 3:
		w.emit(unary[w.below(len(unary))], w.result(), w.name(), 0)
	case 4:
		w.emit(binary[w.below(len(binary))], w.result(), w.name(), w.name())
	case 5:
		w.emit(readers[w.below(len(readers))], w.name(), w.name(), 0)
	case 6:
		w.emit(single[w.below(len(single))], w.name(), 0, 0)
	case 7:
		w.emit(api.OpField, w.result(), w.name(), w.below(3))
	case 8:
		w.call()
	case 9:
		w.closure()
	case 10:
		w.emit(api.OpACas, w.result(), w.name(), w.row(2))
	default:
		w.communication()
	}
}

// block emits statements. Their conditions lead forwards, each to a place of its own, and other jumps lead to the ends of branches and
// to the beginnings of loops.
func (w *writer) block(size int) {
	for range w.from(1, 5) {
		switch kind := w.below(8); {
		case size == 0 || kind > 2:
			w.instruction()
		case kind == 0:
			w.loop(size - 1)
		default:
			w.branches(size - 1)
		}
	}
}

// condition emits a jump to a place that is known later, and returns its place.
func (w *writer) condition(op int) int {
	w.emit(op, 0, 0, 0)
	if op != api.OpJump {
		w.code[len(w.code)-1].A = w.name()
	}
	return len(w.code) - 1
}

// land makes the next instruction the target of jumps.
func (w *writer) land(jumps ...int) {
	for _, i := range jumps {
		w.code[i].C = fixed + len(w.code)
	}
}

func (w *writer) loop(size int) {
	start := fixed + len(w.code)
	end := w.condition([]int{api.OpJumpZ, api.OpOnce}[w.below(2)])
	w.block(size)
	w.emit(api.OpJump, 0, 0, start)
	w.land(end)
}

func (w *writer) branches(size int) {
	var ends []int
	for range w.from(1, 3) {
		other := w.condition([]int{api.OpJumpZ, api.OpOnce}[w.below(2)])
		w.block(size)
		if w.below(6) == 0 {
			w.emit(api.OpReturn, w.name(), 0, 0)
		}
		if w.below(4) > 0 {
			ends = append(ends, w.condition(api.OpJump))
		}
		w.land(other)
	}
	if w.below(2) == 0 {
		w.block(size)
	}
	w.land(ends...)
}

func (w *writer) call() {
	fn := w.below(len(paramCounts))
	if paramCounts[fn] > w.names {
		fn = 0
	}
	first := w.row(paramCounts[fn])
	switch w.below(4) {
	case 0:
		w.emit(api.OpCall, -1, fn, first)
	case 1:
		w.emit(api.OpDefer, 0, fn, first)
	case 2:
		w.emit(api.OpGo, 0, fn, first)
	default:
		w.emit(api.OpCall, w.result(), fn, first)
	}
}

func (w *writer) closure() {
	a := w.result()
	w.emit(api.OpClosure, a, 1, w.below(w.names-a))
}

func (w *writer) communication() {
	if w.below(2) == 0 {
		a, c := w.result(), w.result()
		if w.below(2) == 0 {
			a = -1
		}
		if a == c || w.below(2) == 0 {
			c = -1
		}
		w.emit(api.OpRecv, a, w.name(), c)
		return
	}
	w.choice()
}

// choice emits a select instruction. What it receives is only read where its case was chosen.
func (w *writer) choice() {
	chosen, received := w.result(), w.result()
	number := w.below(4) - 1
	if chosen == received {
		number = -1
	}
	count := w.from(max(number+1, 0), 4)
	w.emit(api.OpSelect, chosen, count, w.below(2))
	for i := range count {
		switch {
		case i == number:
			w.emit(api.OpCase, w.name(), 0, received)
		case w.below(2) == 0:
			w.emit(api.OpCase, w.name(), 1, w.name())
		default:
			w.emit(api.OpCase, w.name(), 0, -1)
		}
	}
	if number >= 0 {
		test := w.result()
		for test == received || test == chosen {
			test = w.names
		}
		w.emit(api.OpConst, test, number, 0)
		w.emit(api.OpEq, test, chosen, test)
		w.emit(api.OpJumpZ, test, 0, fixed+len(w.code)+2)
		w.emit(api.OpPrint, received, 0, 0)
		w.maker(received)
	}
}

// function writes a function in which every name is set before it is read. Its jumps are structured or random.
func (w *writer) function(isStructured bool) api.Func {
	w.code = nil
	w.names = w.from(2, 10)
	w.captures = w.below(3) > 0
	params := w.below(3)
	if w.captures {
		params = 1
	}
	for name := params; name <= w.names; name++ {
		w.maker(name)
	}
	if isStructured {
		w.block(2)
	} else {
		count := w.from(1, 40)
		for range count {
			if w.below(4) == 0 {
				w.jump(count)
			} else {
				w.instruction()
			}
		}
	}
	w.emit(api.OpReturn, []int{-1, w.name()}[w.below(2)], 0, 0)
	w.aim(w.names + 1 - params)
	return api.Func{Name: "f", Params: params, Regs: w.names + 1, Code: w.code}
}

// fixed is what distinguishes the places of instructions from their numbers.
const fixed = 1 << 20

// aim changes the targets of jumps from numbers of instructions behind the first ones to their places.
func (w *writer) aim(before int) {
	var places []int
	for i, in := range w.code {
		if in.Op != api.OpCase && i >= before {
			places = append(places, i)
		}
	}
	for i := range w.code {
		switch in := &w.code[i]; {
		case !isJump(*in):
		case in.C >= fixed:
			in.C -= fixed
		default:
			in.C = places[in.C]
		}
	}
}

// sameTrace reports whether two functions do the same, as far as both are executed.
func sameTrace(f, g api.Func, answers int) bool {
	want, ended := traceOf(f, paramCounts, answers, answers, 500)
	got, gotEnded := traceOf(g, paramCounts, answers+77, answers, 2000)
	if ended {
		return gotEnded && slices.EqualFunc(got, want, slices.Equal[[]int])
	}
	n := min(len(got), len(want))
	return slices.EqualFunc(got[:n], want[:n], slices.Equal[[]int])
}

// isFollowed reports whether all instructions that can be reached can be reached without a jump back.
func isFollowed(f api.Func) bool {
	reached := func(backToo bool) []bool {
		l := make([]bool, len(f.Code))
		l[0] = true
		for range f.Code {
			for pc := range f.Code {
				for _, next := range code.Next(f, pc) {
					l[next] = l[next] || l[pc] && (backToo || next > pc)
				}
			}
		}
		return l
	}
	return slices.Equal(reached(true), reached(false))
}

// checkFewer requires that a function does the same with as few registers as there is code for, and returns how often there is.
func checkFewer(t *testing.T, f api.Func) int {
	t.Helper()
	for limit := f.Regs + 4; ; limit-- {
		g, ok := Func(f, paramCounts, limit)
		if !ok {
			return f.Regs + 4 - limit
		}
		if g.Regs > limit || !isValid(g, paramCounts) {
			t.Fatalf("%+v\n%+v", f, g)
		}
		for rest := range 3 {
			if !sameTrace(f, g, limit+rest*5) {
				t.Fatalf("%s\n%s", listing(f), listing(g))
			}
		}
	}
}

// Random code with structured jumps does the same with fewer registers.
func TestStructuredCode(t *testing.T) {
	w := &writer{chooser: &chooser{state: 5}}
	found := 0
	for range 700 {
		f := w.function(true)
		if _, ok := Func(f, paramCounts, 64); !ok || !isValid(f, paramCounts) {
			t.Fatal(f)
		}
		found += checkFewer(t, f)
	}
	if found < 5000 {
		t.Error(found)
	}
}

// Random code with random jumps does the same with fewer registers. A captured value that is needed for a jump back to a place where
// register 0 has another value is not supported.
func TestRandomCode(t *testing.T) {
	w := &writer{chooser: &chooser{state: 3}}
	found, odd := 0, 0
	for range 1000 {
		f := w.function(false)
		_, ok := Func(f, paramCounts, 64)
		if followed := isFollowed(f); !isValid(f, paramCounts) || ok != followed && (ok || !w.captures) {
			t.Fatal(ok, f)
		}
		if !ok {
			odd++
			continue
		}
		found += checkFewer(t, f)
	}
	if found < 5000 || odd > 200 {
		t.Error(found, odd)
	}
}
