package link

import (
	"slices"
	"testing"

	"interleave/api"
	"interleave/code"
	"interleave/compile"
)

// P12.1: random programs and parts have the specified results.
func TestParts(t *testing.T) {
	a := newAuthor(1)
	refers := map[int]int{}
	for range 3000 {
		l := a.parts()
		for _, p := range l {
			if !Valid(p) || !specifiedValid(p) {
				t.Fatal(show(p))
			}
			for _, f := range p.Funcs {
				for _, in := range f.Code {
					refers[in.Op]++
				}
			}
		}
		p, e := Link(l)
		if q, f := specifiedLink(l); e != api.OK || f != api.OK || !code.Equal(p, q) {
			t.Fatalf("%s:\n%s %v, want\n%s %v", showAll(l), show(p), e, show(q), f)
		}
	}
	for op := api.OpConst; op <= api.OpPrint; op++ {
		if refers[op] < 100 {
			t.Error(op, refers[op])
		}
	}
}

// P12.1: random programs have the specified parts.
func TestSplitPrograms(t *testing.T) {
	for _, p := range programs(3000, 2) {
		if l := Split(p); len(l) != len(p.Funcs) || !slices.EqualFunc(l, specifiedSplit(p), code.Equal) {
			t.Fatalf("%s:\n%s", show(p), showAll(l))
		}
	}
}

// P12.1: parts with a few changes are parts where it is specified, and have the specified results. Those that cannot be linked have the
// specified error.
func TestChangedParts(t *testing.T) {
	a := newAuthor(3)
	count := map[api.Errno]int{}
	for range 6000 {
		l := a.parts()
		for range a.IntN(3) + 1 {
			l = a.change(l)
		}
		for _, p := range l {
			if Valid(p) != specifiedValid(p) {
				t.Fatalf("%v: %v", p, Valid(p))
			}
			if !slices.EqualFunc(Split(p), specifiedSplit(p), code.Equal) {
				t.Fatalf("%v: %v", p, Split(p))
			}
		}
		p, e := Link(l)
		if q, f := specifiedLink(l); e != f || !code.Equal(p, q) {
			t.Fatalf("%v: %v %v, want %v %v", l, p, e, q, f)
		}
		count[e]++
	}
	for _, e := range []api.Errno{api.OK, api.ErrArg, api.ErrDuplicate, api.ErrName, api.ErrMismatch, api.ErrLimit} {
		if count[e] < 100 {
			t.Error(e, count[e])
		}
	}
}

// P12.2: the result of Link is a valid program; linking it alone yields the same program.
func TestPromiseOfResults(t *testing.T) {
	a := newAuthor(4)
	linked := 0
	for range 4000 {
		l := a.parts()
		if a.IntN(2) == 0 {
			l = a.change(l)
		}
		p, e := Link(l)
		if e != api.OK {
			continue
		}
		linked++
		if !code.Valid(p) || !Valid(p) {
			t.Fatalf("%s:\n%s", showAll(l), show(p))
		}
		if q, e := Link([]api.Program{p}); e != api.OK || !code.Equal(p, q) {
			t.Fatalf("%s:\n%s %v", show(p), show(q), e)
		}
	}
	if linked < 2000 {
		t.Error(linked)
	}
}

// hasDistinctLayouts reports whether no layout of a program equals another one.
func hasDistinctLayouts(p api.Program) bool {
	for i, kinds := range p.Layouts {
		if layoutLike(p, kinds) != i {
			return false
		}
	}
	return true
}

// P12.3: the parts of a program are parts. Linking them yields a program that looks the same, and that is the same if its layouts are
// distinct.
func TestPromiseOfSeparateParts(t *testing.T) {
	distinct := 0
	for _, p := range programs(4000, 5) {
		l := Split(p)
		for _, x := range l {
			if !Valid(x) {
				t.Fatalf("%s:\n%s", show(p), show(x))
			}
		}
		q, e := Link(l)
		if e != api.OK || !slices.Equal(shownFuncs(p), shownFuncs(q)) || !slices.Equal(p.Globals, q.Globals) || p.Main != q.Main {
			t.Fatalf("%s:\n%s %v", show(p), show(q), e)
		}
		if hasDistinctLayouts(p) {
			distinct++
			if !code.Equal(p, q) {
				t.Fatalf("%s:\n%s", show(p), show(q))
			}
		}
	}
	if distinct < 1000 || distinct > 3000 {
		t.Error(distinct)
	}
}

// shownFuncs returns the texts of the functions of a program.
func shownFuncs(p api.Program) []string {
	var l []string
	for _, f := range p.Funcs {
		l = append(l, showFunc(p, f))
	}
	return l
}

// sameRuns reports whether two programs run in the same way, apart from the numbers of their functions and the offsets of their global
// variables.
func sameRuns(p, q api.Program, seed uint64, steps int) bool {
	x, y := runOf(p, seed, steps), runOf(q, seed, steps)
	if !slices.Equal(x.output, y.output) || !slices.EqualFunc(x.gs, y.gs, func(g, h *goroutine) bool { return g.fault == h.fault }) {
		return false
	}
	value := func(v api.Value) api.Value {
		if v.Kind == api.VRef && v.N == 0 {
			v.Off = globalWith(p, q.Globals[v.Off].Name)
		}
		return v
	}
	return slices.EqualFunc(x.log, y.log, func(e, f entry) bool {
		f.fn, f.a, f.b = funcWith(p, q.Funcs[f.fn].Name), value(f.a), value(f.b)
		if f.op == 0 {
			f.fn = 0
		}
		return e == f
	})
}

// texts are source texts. The layout of T is that of integer variables that are captured, which the compiler adds.
var texts = []string{
	`var x int; func main() { go func() { x = 1 }(); x = 2 }`,
	`type T struct { n int }; type U struct { t *T }; var g int; var a *T; var u *U; var c chan int
	func add(i int, j int) int { return i + j }
	func start(n int) { i := n; go func() { i = add(i, g); print(i); a.n = i }(); defer add(i, 1); print(i) }
	func main() { c = make(chan int, 1); a = new(T); u = new(U); u.t = a; start(1); start(2); for g < 3 { g = add(g, 1); print(u.t.n) }; c <- 5; print(<-c) }`,
	`type T struct { f func(); n int }; var m mutex; var o once; var t *T; var s []int; var w group
	func one() { m.Lock(); defer m.Unlock(); s[1] = s[1] + 1 }
	func main() { s = make([]int, 3); t = new(T); t.f = one; w.Add(2); go t.f(); go w.Done(); defer o.Do(one); h := func() { print(s[1]); w.Done() }; h(); o.Do(func() { t.n = 7 }); print(t.n) }`,
	`type T struct { n int }; var t *T; var b bool; var n int
	func next(i int) int { if i < 4 { print(i); n = n + i; go put(n); return next(i + 1) }; return n }
	func put(i int) { t.n = i; if b { print(t.n) } }
	func main() { t = new(T); b = true; print(next(0)); defer put(9); print(t.n) }`,
}

// compiled returns the programs of the texts.
func compiled(t *testing.T) []api.Program {
	t.Helper()
	var l []api.Program
	for _, s := range texts {
		p, at, e := compile.Source(s)
		if e != api.OK {
			t.Fatal(s, at, e)
		}
		l = append(l, p)
	}
	return l
}

// P12.3: linking the parts of a program yields one that does the same, under the same picks, by functions with the same numbers.
func TestPromiseOfSeparateRuns(t *testing.T) {
	a := newAuthor(6)
	l := compiled(t)
	for range 1000 {
		l = append(l, a.runnable(true))
	}
	done := map[int]int{}
	for _, p := range l {
		q, e := Link(Split(p))
		if e != api.OK {
			t.Fatal(show(p), e)
		}
		for seed := range uint64(4) {
			x, y := runOf(p, seed, 200), runOf(q, seed, 200)
			if !sameRuns(p, q, seed, 200) || !slices.Equal(x.log, y.log) {
				t.Fatalf("%s:\n%s", show(p), show(q))
			}
			for _, e := range x.log {
				done[e.op]++
			}
		}
	}
	for _, op := range []int{0, api.OpLoad, api.OpStore, api.OpPrint, api.OpGo, api.OpGoC} {
		if done[op] < 1000 {
			t.Error(op, done[op])
		}
	}
}

// hasClosures reports whether a program has an instruction that concerns closures.
func hasClosures(p api.Program) bool {
	return slices.ContainsFunc(p.Funcs, func(f api.Func) bool {
		return slices.ContainsFunc(f.Code, func(in api.Instr) bool {
			return slices.Contains([]int{api.OpClosure, api.OpCallC, api.OpDeferC, api.OpGoC}, in.Op)
		})
	})
}

// withoutGlobals returns a part without the global variables that it does not use, and with the others in another order.
func withoutGlobals(a author, p api.Program) api.Program {
	q := copied(p)
	q.Globals = nil
	var used []int
	for _, f := range p.Funcs {
		for _, in := range f.Code {
			if in.Op == api.OpGlobal && !slices.Contains(used, in.B) {
				used = append(used, in.B)
			}
		}
	}
	used = shuffled(a, used)
	for _, n := range used {
		q.Globals = append(q.Globals, p.Globals[n])
	}
	for _, f := range q.Funcs {
		for pc, in := range f.Code {
			if in.Op == api.OpGlobal {
				f.Code[pc].B = slices.Index(used, in.B)
			}
		}
	}
	return q
}

// P12.4: linking the parts of a program without closures in another order, also if they do not agree on the order of the global
// variables, yields a program that does the same under the same picks.
func TestPromiseOfOrder(t *testing.T) {
	a := newAuthor(7)
	l := compiled(t)
	for range 1500 {
		l = append(l, a.runnable(false))
	}
	tried, moved := 0, 0
	for _, p := range l {
		if hasClosures(p) {
			continue
		}
		order := Split(p)
		if a.IntN(2) == 0 {
			for i := range order {
				order[i] = withoutGlobals(a, order[i])
			}
		}
		order = shuffled(a, order)
		q, e := Link(order)
		if e != api.OK {
			t.Fatal(showAll(order), e)
		}
		tried++
		if !slices.Equal(p.Globals, q.Globals) {
			moved++
		}
		for seed := range uint64(4) {
			if !sameRuns(p, q, seed, 200) {
				t.Fatalf("%s:\n%s", show(p), show(q))
			}
		}
	}
	if tried < 1501 || moved < 200 {
		t.Error(tried, moved)
	}
}

// P12.4: whatever the order of any parts is, the program has the same functions, global variables and layouts, and the same main function.
func TestPromiseOfEqualParts(t *testing.T) {
	a := newAuthor(8)
	sorted := func(p api.Program) []string {
		l := append(shownFuncs(p), "main "+p.Funcs[p.Main].Name)
		for _, g := range p.Globals {
			l = append(l, showGlobal(g))
		}
		for _, kinds := range p.Layouts {
			l = append(l, showLayout(kinds))
		}
		slices.Sort(l)
		return l
	}
	for range 3000 {
		l := a.parts()
		p, e := Link(l)
		q, f := Link(shuffled(a, l))
		if e != api.OK || f != api.OK || !slices.Equal(sorted(p), sorted(q)) {
			t.Fatalf("%s:\n%s %v\n%s %v", showAll(l), show(p), e, show(q), f)
		}
	}
}

// P12.5: a program cannot be linked without the part of a function that another one uses, or of the main function.
func TestPromiseOfErrors(t *testing.T) {
	count := map[api.Errno]int{}
	for _, p := range slices.Concat(programs(2000, 9), compiled(t)) {
		l := Split(p)
		for k, f := range p.Funcs {
			want := api.OK
			for n, g := range p.Funcs {
				if n != k && uses(p, g, f.Name) || k == p.Main {
					want = api.ErrName
				}
			}
			q, e := Link(slices.Delete(slices.Clone(l), k, k+1))
			if e != want || e != api.OK && !code.Equal(q, api.Program{}) {
				t.Fatalf("%s: without %s %v, want %v", show(p), f.Name, e, want)
			}
			count[e]++
		}
	}
	if count[api.OK] < 500 || count[api.ErrName] < 2000 {
		t.Error(count)
	}
}
