package compile

import (
	"fmt"
	"maps"
	"slices"
	"testing"

	"interleave/api"
	"interleave/code"
	"interleave/fold"
	"interleave/parse"
	"interleave/squeeze"
	"interleave/syntax"
)

// difference describes the first difference between the states of two runs, and is empty if there is none.
func difference(a, b *world) string {
	if len(a.gs) != len(b.gs) {
		return fmt.Sprint(len(a.gs), " goroutines, want ", len(b.gs))
	}
	for i := range a.gs {
		x, y := a.gs[i], b.gs[i]
		if x.parked != y.parked || x.ended != y.ended || x.fault != y.fault || x.allocs != y.allocs || !x.request.equal(y.request) {
			return fmt.Sprintf("goroutine %d: %+v, want %+v", i, x.status, y.status)
		}
	}
	return visibleDifference(a, b)
}

// visibleDifference describes the first difference between what can be observed of two runs, other than objects.
func visibleDifference(a, b *world) string {
	if !slices.Equal(a.picks(), b.picks()) {
		return fmt.Sprint("picks ", a.picks(), ", want ", b.picks())
	}
	if !slices.Equal(a.output, b.output) {
		return fmt.Sprint("output ", a.output, ", want ", b.output)
	}
	if !slices.Equal(a.events, b.events) {
		return fmt.Sprint("events ", a.events, ", want ", b.events)
	}
	if !slices.Equal(a.faults(), b.faults()) {
		return fmt.Sprint("faults ", a.faults(), ", want ", b.faults())
	}
	return ""
}

func (w *world) faults() []int {
	var l []int
	for _, g := range w.gs {
		l = append(l, g.fault)
	}
	return l
}

func (r request) equal(o request) bool {
	return r.op == o.op && r.at == o.at && r.a == o.a && r.b == o.b && r.c == o.c && r.fn == o.fn && slices.Equal(r.args, o.args) &&
		slices.Equal(r.cases, o.cases) && r.hasDefault == o.hasDefault
}

// memoryDifference is difference with the objects.
func memoryDifference(a, b *world) string {
	same := func(x, y *api.Object) bool {
		return x.ID == y.ID && slices.Equal(x.Cells, y.Cells) && x.Chan == y.Chan && x.Cap == y.Cap && x.Closed == y.Closed && x.Sent == y.Sent &&
			slices.Equal(x.Queue, y.Queue) && slices.Equal(x.Senders, y.Senders) && slices.Equal(x.Receivers, y.Receivers)
	}
	if d := difference(a, b); d != "" || maps.EqualFunc(a.objects, b.objects, same) {
		return d
	}
	return "objects"
}

// budgetDifference describes how a goroutine of a compiled program has executed more local instructions than the tree permits.
func budgetDifference(a, b *world) string {
	for i := range a.gs {
		x, y := a.gs[i].process.(*processor), b.gs[i].process.(*walker)
		if x.local > y.budget {
			return fmt.Sprintf("goroutine %d: %d local instructions, may be %d", i, x.local, y.budget)
		}
	}
	return ""
}

const mostSteps = 400

// counts are how often something occurred in runs.
type counts map[string]int

// run drives two runs by the same picks, as long as no goroutine of the first one fails with FaultFuel, and returns the first
// difference after a step.
func run(a, b *world, c *chooser, seen counts, differ ...func(a, b *world) string) string {
	for range mostSteps {
		for _, f := range differ {
			if d := f(a, b); d != "" {
				return d
			}
		}
		l := a.picks()
		if len(l) == 0 {
			seen["end"]++
			break
		}
		p := pick(c, l)
		a.do(p)
		if slices.Contains(a.faults(), api.FaultFuel) {
			seen["fuel"]++
			return ""
		}
		b.do(p)
	}
	for _, e := range a.events {
		seen[fmt.Sprint("event ", e.kind)]++
	}
	for _, fault := range a.faults() {
		seen[fmt.Sprint("fault ", fault)]++
	}
	for _, x := range a.log {
		seen[operations()[x.op]]++
	}
	return ""
}

// checkSeen requires that something occurred at least some times.
func checkSeen(t *testing.T, seen counts, least int, keys ...string) {
	t.Helper()
	for _, k := range keys {
		if seen[k] < least {
			t.Errorf("%s: only %d times: %v", k, seen[k], seen)
		}
	}
}

// texts writes programs of the sizes from 1 to 5 that are not too large.
func texts(count int, w *author) []string {
	var l []string
	for size := range 5 {
		for range count {
			s := w.program(size + 1)
			for isTooLarge(s) {
				s = w.program(size + 1)
			}
			l = append(l, s)
		}
	}
	return l
}

func isTooLarge(s string) bool {
	f, _, _ := parse.Parse(s)
	_, e := Compile(f)
	return e == api.ErrLimit
}

func eventKeys() []string {
	var l []string
	for kind := api.EvRead; kind <= api.EvRecvClosed; kind++ {
		l = append(l, fmt.Sprint("event ", kind))
	}
	return l
}

func faultKeys(faults ...int) []string {
	var l []string
	for _, f := range faults {
		l = append(l, fmt.Sprint("fault ", f))
	}
	return l
}

// P11.2: in runs by any picks, random programs do what their trees specify, with few enough local instructions.
func TestBehavior(t *testing.T) {
	w := &author{chooser: &chooser{state: 7}, literals: true}
	seen := counts{}
	for _, s := range texts(150, w) {
		f := annotated(t, parsed(t, s))
		a, b := compiled(accepted(t, f)), walked(newTree(f))
		if d := run(a, b, w.chooser, seen, memoryDifference, budgetDifference); d != "" {
			t.Fatalf("%s\n%s", s, d)
		}
		b.stop()
	}
	checkSeen(t, seen, 600, "end")
	checkSeen(t, seen, 20, eventKeys()...)
	checkSeen(t, seen, 20, "new", "slice", "chan", "closure", "go", "goc", "select", "group", "once", "print")
	checkSeen(t, seen, 3, faultKeys(api.FaultNil, api.FaultIndex, api.FaultDivide, api.FaultClosed, api.FaultUnlock, api.FaultGroup, api.FaultSize, api.FaultMemory)...)
}

// squeezed returns the program of a file in which the functions have as few registers as package squeeze finds, or somewhat more.
func squeezed(t *testing.T, f api.Node, c *chooser, seen counts) api.Program {
	t.Helper()
	tables := newTables(&f)
	p := api.Program{Globals: tables.globals, Layouts: tables.layouts, Main: tables.main}
	for _, fn := range tables.functions {
		generated := generate(tables, fn)
		least := generated
		for limit, ok := generated.Regs-1, true; ok && c.below(20) > 0; limit-- {
			var smaller api.Func
			if smaller, ok = squeeze.Func(generated, tables.params(), limit); ok {
				least = smaller
			}
		}
		p.Funcs = append(p.Funcs, least)
		seen["registers before"] += generated.Regs
		seen["registers after"] += least.Regs
		seen["instructions before"] += len(generated.Code)
		seen["instructions after"] += len(least.Code)
	}
	return p
}

// P11.2: programs with few registers do what their trees specify. They need no more instructions in all, and with the smallest numbers
// of registers hardly ever more local ones than the chapter permits.
func TestFewRegisters(t *testing.T) {
	w := &author{chooser: &chooser{state: 11}, literals: true}
	seen := counts{}
	for _, s := range texts(100, w) {
		f := annotated(t, parsed(t, s))
		p := squeezed(t, f, w.chooser, seen)
		a, b := compiled(p), walked(newTree(f))
		if d := run(a, b, w.chooser, seen, memoryDifference); d != "" || !code.Valid(p) {
			t.Fatalf("%s\n%s\n%s", s, d, code.Text(p))
		}
		if len(a.gs) == len(b.gs) && budgetDifference(a, b) != "" {
			seen["over budget"]++
		}
		b.stop()
	}
	if 4*seen["registers after"] > 3*seen["registers before"] || seen["instructions after"] > seen["instructions before"] || seen["over budget"] > 3 {
		t.Error(seen)
	}
	checkSeen(t, seen, 400, "end")
	checkSeen(t, seen, 20, "new", "slice", "chan", "closure", "go", "goc", "select", "group", "once", "print")
}

// P11.3: sequential programs print the values and fail with the faults of their trees.
func TestSequentialPrograms(t *testing.T) {
	w := &author{chooser: &chooser{state: 13}, literals: true, sequential: true}
	seen := counts{}
	for _, s := range texts(80, w) {
		f := annotated(t, parsed(t, s))
		a, b := compiled(accepted(t, f)), walked(newTree(f))
		if d := run(a, b, w.chooser, seen, visibleDifference); d != "" {
			t.Fatalf("%s\n%s", s, d)
		}
		seen["printed"] += len(a.output)
		b.stop()
	}
	checkSeen(t, seen, 200, "end", "printed")
	checkSeen(t, seen, 2, faultKeys(api.FaultNone, api.FaultNil, api.FaultIndex, api.FaultDivide, api.FaultUnlock, api.FaultGroup)...)
}

// P11.5: programs without function literals behave like their folded files.
func TestFolding(t *testing.T) {
	w := &author{chooser: &chooser{state: 17}}
	seen := counts{}
	for _, s := range texts(100, w) {
		f := parsed(t, s)
		folded := fold.File(f)
		if !syntax.Equal(f, folded) {
			seen["folded"]++
		}
		a, b := compiled(accepted(t, f)), compiled(accepted(t, folded))
		if d := run(a, b, w.chooser, seen, visibleDifference); d != "" {
			t.Fatalf("%s\n%s", s, d)
		}
	}
	checkSeen(t, seen, 200, "folded", "end")
}

// P11.2: an instruction in a loop takes as many local instructions as the chapter permits, and no fuel is missing.
func TestFuel(t *testing.T) {
	for _, s := range []string{
		"func main() { i := 0; for i < 150 { i = i + 1 }; print(i) }",
		"func f(a int, b int) int { return a + b }; func main() { i := 0; for i < 100 { i = f(i, 1) }; print(i) }",
		"func main() { i := 0; for i < 100 { if i % 2 == 0 || i > 10 && i != 20 { i = i + 3 } else { i = i - 1 + 3 } }; print(i) }",
		"var at atomic; func main() { i := 0; f := func() { }; for i < 100 { i = i + 1; f() }; print(i) }",
	} {
		f := annotated(t, parsed(t, s))
		a, b := compiled(accepted(t, f)), walked(newTree(f))
		if d := run(a, b, &chooser{}, counts{}, memoryDifference, budgetDifference); d != "" || a.faults()[0] != api.FaultNone {
			t.Errorf("%s: %v %s", s, a.faults(), d)
		}
		b.stop()
	}
}
