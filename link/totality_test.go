package link

import (
	"math"
	"slices"
	"strconv"
	"strings"
	"testing"

	"interleave/api"
	"interleave/code"
)

// call calls all functions, for a program with any numbers, and requires what is specified.
func call(t *testing.T, p api.Program) {
	t.Helper()
	want := api.ErrArg
	if Valid(p) {
		want = api.ErrName
	}
	if Valid(p) != specifiedValid(p) {
		t.Fatal(p)
	}
	if code.Valid(p) {
		want = api.OK
	}
	if q, e := Link([]api.Program{p}); want == api.OK && e != want || want == api.ErrArg && e != want || e != api.OK && !code.Equal(q, api.Program{}) {
		t.Fatal(p, e)
	}
	if l := Split(p); len(l) > 0 && !code.Valid(p) || len(l) != len(p.Funcs) && code.Valid(p) {
		t.Fatal(p, l)
	}
}

// P1, P12.1: no call panics, and every call ends, for programs with any numbers.
func TestAnyPrograms(t *testing.T) {
	a := newAuthor(10)
	valid := 0
	for range 60000 {
		p := a.anyProgram()
		call(t, p)
		if Valid(p) {
			valid++
		}
		l := []api.Program{a.anyProgram(), p, a.anyProgram()}
		q, e := Link(l)
		if r, f := specifiedLink(l); e != f || !code.Equal(q, r) {
			t.Fatal(l, e, f)
		}
	}
	if valid < 500 {
		t.Error(valid)
	}
}

// P1, P12.1: sizes far beyond the limits.
func TestLargePrograms(t *testing.T) {
	const many = 1 << 18
	for _, p := range []api.Program{
		large(many, 0, 0, 0, 0, strconv.Itoa), large(0, many, 0, 0, 0, strconv.Itoa), large(1, 0, many, 0, 0, strconv.Itoa),
		{Layouts: make([][]int, many), Main: -1}, {Layouts: [][]int{make([]int, many)}, Main: -1},
		{Funcs: []api.Func{{Name: "f", Code: make([]api.Instr, many)}}, Main: -1},
		{Funcs: []api.Func{{Name: "f", Params: math.MaxInt, Regs: math.MaxInt}}, Main: -1},
	} {
		for _, main := range []int{-1, 0, many - 1, many} {
			p.Main = main
			if q, e := Link([]api.Program{p}); Valid(p) || e != api.ErrArg || !code.Equal(q, api.Program{}) || Split(p) != nil {
				t.Error(len(p.Funcs), e)
			}
		}
	}
}

// P1, P12.1: very many parts, which together have too much, or not.
func TestManyParts(t *testing.T) {
	const many = 1 << 16
	all := func(p func(n int) api.Program) []api.Program {
		l := []api.Program{part("func m 0 0: return -1; main m")}
		for n := range many {
			l = append(l, p(n))
		}
		return l
	}
	name := func(n int) string { return "n" + strconv.Itoa(n) }
	for _, c := range []struct {
		p    func(n int) api.Program
		want api.Errno
	}{
		{func(int) api.Program { return api.Program{Main: -1} }, api.OK},
		{func(int) api.Program { return part("import m 0; global x 1; layout [01]") }, api.OK},
		{func(n int) api.Program { return part("global x" + strconv.Itoa(n%64) + " 0") }, api.OK},
		{func(n int) api.Program { return part("global " + name(n) + " 0") }, api.ErrLimit},
		{func(n int) api.Program { return part("func " + name(n) + " 0 0: return -1") }, api.ErrLimit},
		{func(n int) api.Program { return part("layout [" + strconv.FormatInt(int64(n), 2) + "]") }, api.ErrLimit},
		{func(n int) api.Program { return part("global " + name(n) + " 0; import m " + strconv.Itoa(n/(many-1))) }, api.ErrMismatch},
		{func(n int) api.Program {
			return part("func " + name(n) + " 0 0: return -1; import " + name(n+1) + " 0")
		}, api.ErrName},
		{func(n int) api.Program { return part("func " + name(n%(many-1)) + " 0 0: return -1") }, api.ErrDuplicate},
		{func(n int) api.Program { return part("layout [" + strconv.Itoa(n/(many-1)*2) + "]") }, api.ErrArg},
	} {
		p, e := Link(all(c.p))
		if e != c.want || e == api.OK && !code.Valid(p) || e != api.OK && !code.Equal(p, api.Program{}) {
			t.Errorf("%s: %v, want %v", show(c.p(1)), e, c.want)
		}
	}
}

// P1: a name that is long and used often is not read for each use.
func TestLongNames(t *testing.T) {
	long := strings.Repeat("n", 1<<24)
	p := api.Program{Globals: []api.Global{{Name: long}}}
	for n := range 60 {
		l := slices.Repeat([]api.Instr{{Op: api.OpGlobal}, {Op: api.OpGo}}, 499)
		p.Funcs = append(p.Funcs, api.Func{Name: long[n:], Regs: 1, Code: append(l, api.Instr{Op: api.OpReturn})})
	}
	l := Split(p)
	if q, e := Link(l); e != api.OK || !code.Equal(p, q) {
		t.Error(e)
	}
}

// scribble changes everything in a program, with the spare capacity of its lists.
func scribble(p api.Program) {
	for _, f := range p.Funcs[:cap(p.Funcs)] {
		for i := range f.Code[:cap(f.Code)] {
			f.Code[:cap(f.Code)][i] = api.Instr{Op: -1}
		}
	}
	for _, l := range p.Layouts[:cap(p.Layouts)] {
		for i := range l[:cap(l)] {
			l[:cap(l)][i] = -1
		}
	}
	clear(p.Funcs[:cap(p.Funcs)])
	clear(p.Globals[:cap(p.Globals)])
	clear(p.Layouts[:cap(p.Layouts)])
}

// spare returns a program whose lists have spare capacity with known contents.
func spare(p api.Program) api.Program {
	p = copied(p)
	for i, f := range p.Funcs {
		p.Funcs[i].Code = append(slices.Clone(f.Code), api.Instr{Op: 7})[:len(f.Code)]
	}
	for i, kinds := range p.Layouts {
		p.Layouts[i] = append(slices.Clone(kinds), 7)[:len(kinds)]
	}
	p.Funcs = append(p.Funcs, api.Func{Name: "spare"})[:len(p.Funcs)]
	p.Globals = append(p.Globals, api.Global{Name: "spare"})[:len(p.Globals)]
	p.Layouts = append(p.Layouts, []int{7})[:len(p.Layouts)]
	return p
}

// isSpare reports whether the spare capacity of the lists of a program has its contents.
func isSpare(p api.Program) bool {
	for _, f := range p.Funcs {
		if f.Code[:len(f.Code)+1][len(f.Code)] != (api.Instr{Op: 7}) {
			return false
		}
	}
	for _, kinds := range p.Layouts {
		if kinds[:len(kinds)+1][len(kinds)] != 7 {
			return false
		}
	}
	funcs, globals, layouts := p.Funcs[:len(p.Funcs)+1], p.Globals[:len(p.Globals)+1], p.Layouts[:len(p.Layouts)+1]
	return funcs[len(p.Funcs)].Name == "spare" && globals[len(p.Globals)].Name == "spare" && slices.Equal(layouts[len(p.Layouts)], []int{7})
}

// Rule 5 of the document: arguments are not modified, with their spare capacity, and results share no memory with them or each other.
func TestMemory(t *testing.T) {
	a := newAuthor(11)
	for range 500 {
		l := a.parts()
		before := slices.Clone(l)
		for i := range l {
			l[i] = spare(l[i])
			Valid(l[i])
		}
		p, _ := Link(l)
		if !slices.EqualFunc(l, before, code.Equal) || slices.ContainsFunc(l, func(p api.Program) bool { return !isSpare(p) }) {
			t.Fatal(showAll(before))
		}
		other, _ := Link(l)
		scribble(other)
		if want, _ := specifiedLink(before); !slices.EqualFunc(l, before, code.Equal) || !code.Equal(p, want) {
			t.Fatal(showAll(before))
		}
		for _, p := range l {
			scribble(p)
		}
		if want, _ := specifiedLink(before); !code.Equal(p, want) {
			t.Fatal(showAll(before))
		}
		checkMemoryOfSplit(t, p)
	}
}

func checkMemoryOfSplit(t *testing.T, p api.Program) {
	t.Helper()
	want := specifiedSplit(p)
	for i := range want {
		q := spare(p)
		l := Split(q)
		if !code.Equal(p, q) || !isSpare(q) {
			t.Fatal(show(p))
		}
		scribble(l[i])
		if !code.Equal(p, q) {
			t.Fatal(show(p))
		}
		scribble(q)
		for k := range l {
			if k != i && !code.Equal(l[k], want[k]) {
				t.Fatal(show(p))
			}
		}
	}
}

// Rule 6 of the document: no state is kept between calls, also after errors.
func TestNoState(t *testing.T) {
	a := newAuthor(12)
	for range 200 {
		l, other := a.parts(), a.parts()
		want, _ := specifiedLink(l)
		for range 3 {
			Link(other)
			Link(append(slices.Clone(l), l...))
			Link(append(slices.Clone(l), api.Program{}))
			Split(want)
			if p, e := Link(l); e != api.OK || !code.Equal(p, want) {
				t.Fatal(showAll(l))
			}
		}
	}
}
