package compile

import (
	"slices"
	"strconv"
	"strings"
	"testing"

	"interleave/api"
	"interleave/check"
	"interleave/code"
	"interleave/fold"
	"interleave/parse"
)

// source returns the program of a text.
func source(t *testing.T, s string) api.Program {
	t.Helper()
	p, at, e := Source(s)
	if e != api.OK || at != 0 || !code.Valid(p) {
		t.Fatalf("%s\n%d %v", s, at, e)
	}
	return p
}

// checkFunctions requires the names of the functions of a text, with their numbers of parameters unless these are 0.
func checkFunctions(t *testing.T, s, want string) {
	t.Helper()
	var words []string
	for _, f := range source(t, s).Funcs {
		word := f.Name
		if f.Params > 0 {
			word += "/" + strconv.Itoa(f.Params)
		}
		words = append(words, word)
	}
	if got := strings.Join(words, " "); got != want {
		t.Errorf("%s: %s, want %s", s, got, want)
	}
}

// P11.1: the functions, their names, their order and their numbers of parameters.
func TestFunctions(t *testing.T) {
	checkFunctions(t, "func main() { }", "main")
	checkFunctions(t, "func f(a int, b func()) { }; func main() { }; func g(c int) int { return c }", "f/2 main g/1")
	checkFunctions(t, "func main() { func() { func() { }(); func() { }() }(); func() { }() }", "main main.1/1 main.1.1/1 main.1.2/1 main.2/1")
	checkFunctions(t, "func main() { f := func() { }; if f == nil { go func() { }() } else { defer func() { }() } }; func g() { func() { }() }", "main main.1/1 main.2/1 main.3/1 g g.1/1")
	const head = "type T struct { m mutex; on once; f func(); wg group; n *T }; var m mutex; var on once; var wg group; var f func(); var p *T; func k(f func()) *T { return nil }; "
	checkFunctions(t, head+"func main() { go m.Lock(); defer m.Unlock(); m.Lock(); go f(); go p.f(); go func() { }(); go main() }", "k/1 main main.1/1 main.2/1 main.3/1")
	checkFunctions(t, head+"func main() { go on.Do(func() { defer wg.Done() }); on.Do(func() { }) }", "k/1 main main.1/1 main.2/1 main.2.1/1 main.3/1")
	checkFunctions(t, head+"func main() { defer k(func() { }).m.Lock(); go k(func() { }) }", "k/1 main main.1/1 main.2/1 main.3/1")
	checkFunctions(t, head+"func main() { func() { go p.n.wg.Add(1); defer p.on.Do(nil) }() }", "k/1 main main.1/1 main.1.1/1 main.1.2/1")
	checkFunctions(t, "var c chan int; func main() { select { case c <- 1: func() { }(); case <-c: func() { }() } }", "main main.1/1 main.2/1")
	checkFunctions(t, "var s []int; func g(f func()) int { return 0 }; func main() { s[g(func() { s = nil })] = g(func() { func() { }() }) }", "g/1 main main.1/1 main.2/1 main.2.1/1")
}

// P11.1: the wrappers of functions whose names are values.
func TestWrappers(t *testing.T) {
	checkFunctions(t, "func f() { }; func g() { }; func main() { x := g; x = f; f(); x = g; x() }", "f g main f.0/1 g.0/1")
	checkFunctions(t, "func f() { }; func main() { f(); go f(); defer f() }", "f main")
	checkFunctions(t, "func k(f func()) { f() }; func g() { }; func main() { k(g) }", "k/1 g main g.0/1")
	checkFunctions(t, "func g() { }; func main() { if g == nil { } }", "g main g.0/1")
	checkFunctions(t, "func main() { func() { x := main; x() }() }", "main main.1/1 main.0/1")
	checkFunctions(t, "func g() { }; func main() { g := 1; print(g) }", "g main")
	checkFunctions(t, "var on once; func g() { }; func main() { go on.Do(g); func() { }() }", "g main main.1/1 main.2/1 g.0/1")
	checkFunctions(t, "func g() { }; func main() { if false { x := g; x() } }", "g main") // Source folds
	checkFunctions(t, "func a() { }; func b() { }; func main() { x := b; func() { y := a; y() }(); x() }", "a b main main.1/1 a.0/1 b.0/1")
}

// P11.1: globals, layouts and Main.
func TestTables(t *testing.T) {
	p := source(t, "type A struct { a int; b bool; c []int; d chan int; e func(); f *B }\nvar x bool\nvar y *A\nfunc f() { }\ntype B struct { }\n"+
		"type C struct { a mutex; b rwmutex; c group; d once; e atomic; f *C }\nvar m mutex\nvar n rwmutex\nvar o group\nvar q once\nvar r atomic\n"+
		"func main() { }\nvar s []int\nvar c chan int\nvar h func()\nvar i int\n")
	kinds := map[string]int{"y": api.CellRef, "s": api.CellRef, "c": api.CellRef, "h": api.CellRef}
	var want []api.Global
	for name := range strings.FieldsSeq("x y m n o q r s c h i") {
		want = append(want, api.Global{Name: name, Kind: kinds[name]})
	}
	if !slices.Equal(p.Globals, want) {
		t.Error(p.Globals)
	}
	const i, r = api.CellInt, api.CellRef
	layouts := [][]int{{i, i, r, r, r, r}, {}, {i, i, i, i, i, r}, {i}, {r}}
	if !slices.EqualFunc(p.Layouts, layouts, slices.Equal[[]int]) {
		t.Error(p.Layouts)
	}
	if p.Main != 1 {
		t.Error(p.Main)
	}
	p = source(t, "func main() { }")
	if !slices.EqualFunc(p.Layouts, layouts[3:], slices.Equal[[]int]) || len(p.Globals) != 0 || p.Main != 0 {
		t.Error(p)
	}
}

// The example of the chapter.
func TestExample(t *testing.T) {
	p := source(t, "var x int\nfunc main() { x = 1; go func() { x = x + 1 }() }")
	w := compiled(p)
	for _, g := range []int{0, 0, 1, 1} {
		w.do(api.Pick{G: g})
	}
	var got [][4]int
	for _, e := range w.events {
		got = append(got, [4]int{e.g, e.kind, e.obj, e.off})
	}
	want := [][4]int{{0, api.EvWrite, 0, 0}, {0, api.EvGo, 0, 0}, {1, api.EvRead, 0, 0}, {1, api.EvWrite, 0, 0}}
	if !slices.Equal(got, want) || len(w.picks()) != 0 || w.objects[0].Cells[0].N != 2 {
		t.Error(got, w.picks())
	}
	if o := w.objects[1]; o == nil || len(w.objects) != 2 || p.Funcs[o.Cells[0].N].Name != "main.1" {
		t.Error(w.objects)
	}
	w = compiled(source(t, "func main() { var a []int; a[0] = 1 / 0 }"))
	if w.faults()[0] != api.FaultDivide {
		t.Error(w.faults())
	}
}

// P11.2: the offsets of instructions are those of the nodes, or 0 for negative ones.
func TestOffsets(t *testing.T) {
	f := parsed(t, "var x int; var c chan int; var m mutex; func f(a int) { func() { a = 1 }() }\n"+
		"func main() { x = x + 1; print(x); go f(x); select { case c <- 1: x = 2; default: }; go m.Lock(); c <- 3 }")
	offsets := func(f api.Node) []int {
		var l []int
		for _, fn := range accepted(t, f).Funcs {
			for _, in := range fn.Code {
				if code.Visible(in.Op) || in.Op == api.OpCase {
					l = append(l, in.At)
				}
			}
		}
		return l
	}
	moved := func(by int) api.Node { return shifted(f, by) }
	want := offsets(f)
	for _, by := range []int{-1 << 62, -100, 0, 1, 1 << 62} {
		var l []int
		for _, at := range want {
			l = append(l, max(at+by, 0))
		}
		if got := offsets(moved(by)); !slices.Equal(got, l) {
			t.Error(by, got, l)
		}
		if !code.Valid(accepted(t, moved(by))) {
			t.Error(by)
		}
	}
}

// shifted returns a tree with other offsets.
func shifted(n api.Node, by int) api.Node {
	n.At += by
	n.Kids = slices.Clone(n.Kids)
	for i, k := range n.Kids {
		n.Kids[i] = shifted(k, by)
	}
	return n
}

// P11.1: the errors of Source and their offsets.
func TestErrors(t *testing.T) {
	for _, x := range []struct {
		s  string
		at int
		e  api.Errno
	}{
		{"func main() { # }", 14, api.ErrSyntax},
		{"func main() { x }", 16, api.ErrSyntax},
		{"func main() {", 13, api.ErrSyntax},
		{"", 0, api.ErrName},
		{"func f() { }", 0, api.ErrName},
		{"func main() { x = 1 }", 14, api.ErrName},
		{"func main() { x := 1; x := 2 }", 22, api.ErrDuplicate},
		{"func main() { x := nil }", 19, api.ErrType},
		{"func main() { } // " + strings.Repeat("x", api.MaxText), 0, api.ErrLimit},
		{"func main() { x := " + strings.Repeat("(-", 50) + "1" + strings.Repeat(")", 50) + " }", 0, api.ErrLimit},
		{"func main() { " + strings.Repeat("func() { }(); ", api.MaxFuncs) + "}", 0, api.ErrLimit},
	} {
		p, at, e := Source(x.s)
		if at != x.at || e != x.e || !code.Equal(p, api.Program{}) {
			t.Errorf("%.80s: %d %v", x.s, at, e)
		}
	}
	for _, n := range []api.Node{{}, {Kind: api.NBlock}, {Kind: api.NFile}, parsed(t, "func f() { }"), parsed(t, "func main() { x = 1 }"), parsed(t, "func main() { x := nil }")} {
		if p, e := Compile(n); e != api.ErrArg || !code.Equal(p, api.Program{}) {
			t.Error(n, e)
		}
	}
}

// P11.1: Source does what the layers do one after the other.
func TestSource(t *testing.T) {
	w := &author{chooser: &chooser{state: 19}, literals: true}
	for i := range 200 {
		s := w.program(i%4 + 1)
		if i%3 == 0 {
			l := strings.Fields(s)
			k := w.below(len(l))
			s = strings.Join(slices.Replace(l, k, k+1, pick(w.chooser, l)), " ")
		}
		p, at, e := Source(s)
		q, wantAt, want := layers(s)
		if at != wantAt || e != want || !code.Equal(p, q) {
			t.Errorf("%s\n%d %v, want %d %v", s, at, e, wantAt, want)
		}
	}
}

func layers(s string) (api.Program, int, api.Errno) {
	n, at, e := parse.Parse(s)
	if e != api.OK {
		return api.Program{}, at, e
	}
	if n, at, e = check.Check(n); e != api.OK {
		return api.Program{}, at, e
	}
	p, e := Compile(fold.File(n))
	return p, 0, e
}
