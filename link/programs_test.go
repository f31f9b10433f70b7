package link

import (
	"math"
	"math/rand/v2"
	"slices"
	"strconv"
	"strings"

	"interleave/api"
)

// author writes valid programs and parts.
type author struct{ *rand.Rand }

func newAuthor(seed uint64) author { return author{rand.New(rand.NewPCG(seed, 12))} }

func pick[T any](a author, l []T) T { return l[a.IntN(len(l))] }

// shuffled returns the elements of a list in any order.
func shuffled[T any](a author, l []T) []T {
	l = slices.Clone(l)
	a.Shuffle(len(l), func(i, j int) { l[i], l[j] = l[j], l[i] })
	return l
}

// names are names without blanks and without the separators of texts. Functions and global variables can have the same ones.
var names = []string{"main", "f", "g", "x", "y", "f.1", "0", "1", "-1", "é"}

// world is what the parts of one program agree on.
type world struct {
	params  map[string]int // of functions
	kinds   map[string]int // of global variables
	layouts [][]int
	main    string
}

func (a author) world() world {
	w := world{params: map[string]int{}, kinds: map[string]int{}, main: pick(a, names)}
	for _, name := range names {
		w.params[name] = []int{0, 0, 1, 1, 2}[a.IntN(5)]
		w.kinds[name] = a.IntN(2)
	}
	w.params[w.main] = 0
	for range a.IntN(4) + 1 {
		l := make([]int, a.IntN(4))
		for i := range l {
			l[i] = a.IntN(2)
		}
		w.layouts = append(w.layouts, l)
	}
	return w
}

// part returns a part with some definitions, and with imports.
func (a author) part(w world, definitions, imports []string) api.Program {
	p := api.Program{Main: -1}
	for _, name := range shuffled(a, names)[:a.IntN(4)] {
		p.Globals = append(p.Globals, api.Global{Name: name, Kind: w.kinds[name]})
	}
	for range a.IntN(5) {
		p.Layouts = append(p.Layouts, slices.Clone(pick(a, w.layouts)))
	}
	for _, name := range shuffled(a, slices.Concat(definitions, imports)) {
		f := api.Func{Name: name, Params: w.params[name], Regs: w.params[name]}
		if slices.Contains(definitions, name) {
			f.Regs += a.IntN(5)
			for range a.IntN(12) + 1 {
				f.Code = append(f.Code, api.Instr{Op: api.OpReturn, A: -1, At: a.IntN(100)})
			}
			if name == w.main {
				p.Main = len(p.Funcs)
			}
		}
		p.Funcs = append(p.Funcs, f)
	}
	for _, f := range p.Funcs {
		for range 4 * len(f.Code) {
			a.replaceSome(p, f)
		}
	}
	return p
}

// replaceSome replaces one instruction of a function, or a few by an OpSelect and its cases, if the part stays one.
func (a author) replaceSome(p api.Program, f api.Func) {
	before := slices.Clone(f.Code)
	pc := a.IntN(len(f.Code))
	in := a.instr(p, f)
	if in.Op == api.OpSelect {
		in.B = a.IntN(min(9, len(f.Code)-pc))
		for i := pc + 1; i <= pc+in.B; i++ {
			f.Code[i] = a.instr(p, f)
			f.Code[i].Op, f.Code[i].B = api.OpCase, a.IntN(2)
		}
	}
	f.Code[pc] = in
	if !specifiedValid(p) || !usesOwn(p, f) {
		copy(f.Code, before)
	}
}

// instr returns an instruction whose operands often fit. Most of them refer to something.
func (a author) instr(p api.Program, f api.Func) api.Instr {
	small := func(n int) int { return []int{0, a.IntN(n+2) - 1}[a.IntN(2)] }
	in := api.Instr{Op: a.IntN(api.OpPrint) + 1, A: small(f.Regs), B: small(len(f.Code)), C: small(f.Regs), At: a.IntN(100)}
	if a.IntN(2) == 0 {
		in.Op = pick(a, []int{api.OpCall, api.OpDefer, api.OpGo, api.OpClosure, api.OpGlobal, api.OpNew})
		in.B = a.IntN(max(len(p.Funcs), len(p.Globals), len(p.Layouts)))
	}
	if a.IntN(4) == 0 {
		in.C = a.IntN(len(f.Code))
	}
	return in
}

// parts returns parts that can be linked.
func (a author) parts() []api.Program {
	w := a.world()
	defined := shuffled(a, names)[:a.IntN(6)]
	if !slices.Contains(defined, w.main) {
		defined = append(defined, w.main)
	}
	rest := shuffled(a, defined)
	var l []api.Program
	for len(rest) > 0 || a.IntN(4) == 0 {
		n := a.IntN(min(len(rest), 4) + 1)
		imports := slices.DeleteFunc(slices.Clone(defined), func(s string) bool { return slices.Contains(rest[:n], s) || a.IntN(2) == 0 })
		l = append(l, a.part(w, rest[:n], imports))
		rest = rest[n:]
	}
	return l
}

// program returns a valid program. Its layouts need not be distinct.
func (a author) program() api.Program {
	w := a.world()
	defined := shuffled(a, names)[:a.IntN(6)]
	if !slices.Contains(defined, w.main) {
		defined = append(defined, w.main)
	}
	return a.part(w, defined, nil)
}

// programs returns valid programs.
func programs(count int, seed uint64) []api.Program {
	a := newAuthor(seed)
	var l []api.Program
	for range count {
		l = append(l, a.program())
	}
	return l
}

// change returns parts with one change, after which they may not be parts any more.
func (a author) change(l []api.Program) []api.Program {
	l = slices.Clone(l)
	i := a.IntN(len(l) + 1)
	if i == len(l) {
		return append(l, a.parts()[0])
	}
	switch a.IntN(12) {
	case 0:
		return slices.Delete(l, i, i+1)
	case 1:
		return append(l, l[i])
	case 2:
		l[i] = a.many(l[i])
		return l
	case 3:
		l[i] = a.many(l[i])
		return append(l, a.many(api.Program{Main: -1}))
	}
	p := copied(l[i])
	l[i] = p
	switch kind := a.IntN(10); {
	case kind == 0:
		l[i].Main = a.IntN(len(p.Funcs)+3) - 2
	case kind == 1 && len(p.Globals) > 0:
		p.Globals[a.IntN(len(p.Globals))] = api.Global{Name: pick(a, names), Kind: a.IntN(9) / 4}
	case kind == 2 && len(p.Layouts) > 0:
		p.Layouts[a.IntN(len(p.Layouts))] = [][]int{{0, 0, 0, 0}, {2}, make([]int, 65)}[a.IntN(3)]
	case len(p.Funcs) == 0:
		l[i].Funcs = []api.Func{{Name: pick(a, names), Params: a.IntN(3)}}
	default:
		a.changeFunc(&p.Funcs[a.IntN(len(p.Funcs))], len(p.Funcs))
	}
	return l
}

func (a author) changeFunc(f *api.Func, funcs int) {
	switch a.IntN(7) {
	case 0:
		f.Name = pick(a, names)
	case 1:
		f.Params, f.Regs = f.Params+1, f.Regs+1
	case 2:
		f.Regs = f.Params
		f.Code = nil
	case 3:
		f.Code = instrsIn(api.Program{}, "return -1")
	case 4:
		f.Regs += a.IntN(3) - 1
	case 5:
		f.Params = a.IntN(5) - 1
	case 6:
		f.Code = append(instrsIn(api.Program{}, "go 0 0"), f.Code...)
		f.Code[0].B = a.IntN(funcs + 1)
	}
}

// many returns a part with many more functions, global variables or layouts. It has too many of them only if it had some before.
func (a author) many(p api.Program) api.Program {
	p = copied(p)
	what, prefix, sizes := a.IntN(3), pick(a, []string{"n", "k"}), a.IntN(33)
	for n := range a.IntN(10) + 55 {
		name := prefix + strconv.Itoa(n)
		switch what {
		case 0:
			p.Globals = append(p.Globals, api.Global{Name: name, Kind: n % 2})
		case 1:
			p.Funcs = append(p.Funcs, api.Func{Name: name, Code: instrsIn(p, "return -1")})
		case 2:
			if n < 29 {
				p.Layouts = append(p.Layouts, make([]int, n+sizes))
			}
		}
	}
	return p
}

// extremes are numbers at the ends of ranges.
var extremes = []int{math.MinInt, -2, -1, 0, 1, 2, 3, 63, 64, 65, 1000, math.MaxInt}

// anyProgram returns a program with any numbers.
func (a author) anyProgram() api.Program {
	n := func() int { return []int{a.IntN(5) - 1, pick(a, extremes)}[a.IntN(2)] }
	name := func() string { return append(names, "")[a.IntN(len(names)+1)] }
	p := api.Program{Main: n()}
	for range a.IntN(3) {
		p.Globals = append(p.Globals, api.Global{Name: name(), Kind: n()})
	}
	for range a.IntN(3) {
		p.Layouts = append(p.Layouts, slices.Repeat([]int{n()}, a.IntN(3)))
	}
	for range a.IntN(4) {
		f := api.Func{Name: name(), Params: n(), Regs: n()}
		for range a.IntN(4) {
			f.Code = append(f.Code, api.Instr{Op: a.IntN(api.OpPrint+3) - 1, A: n(), B: n(), C: n(), At: n()})
		}
		if a.IntN(2) == 0 {
			f.Params = f.Regs
		}
		p.Funcs = append(p.Funcs, f)
	}
	return p
}

// runnable returns a program that does much when it runs. Its layouts need not be distinct.
func (a author) runnable(closures bool) api.Program {
	w := a.world()
	w.layouts = append(w.layouts, []int{0}, []int{1, 0})
	p := api.Program{}
	for _, name := range shuffled(a, names)[:a.IntN(4)+1] {
		p.Globals = append(p.Globals, api.Global{Name: name, Kind: w.kinds[name]})
	}
	for range a.IntN(5) + 1 {
		p.Layouts = append(p.Layouts, slices.Clone(pick(a, w.layouts)))
	}
	for _, name := range shuffled(a, append(slices.DeleteFunc(slices.Clone(names), func(s string) bool { return s == w.main })[:4], w.main)) {
		if name == w.main {
			p.Main = len(p.Funcs)
		}
		p.Funcs = append(p.Funcs, api.Func{Name: name, Params: w.params[name], Regs: 8})
	}
	for i := range p.Funcs {
		f := &p.Funcs[i]
		for range a.IntN(6) + 2 {
			skip := len(f.Code)
			if a.IntN(3) == 0 {
				f.Code = append(f.Code, instrsIn(p, "global 4 "+pick(a, p.Globals).Name+", load 3 4, jumpz 3")...)
				skip += 2
			}
			f.Code = append(f.Code, a.statement(p, closures)...)
			if f.Code[skip].Op == api.OpJumpZ {
				f.Code[skip].C = len(f.Code)
			}
		}
		f.Code = append(f.Code, instrsIn(p, "return 3")...)
	}
	return p
}

// statement returns some instructions that belong together.
func (a author) statement(p api.Program, closures bool) []api.Instr {
	forms := []string{
		"global 4 G, const 5 N, store 4 5", "global 4 G, load 3 4, print 3", "global 4 G, load 3 4, const 5 N, add 5 5 3, store 4 5",
		"new 4 L, len 3 4, print 3", "new 4 L, global 5 G, store 5 4", "new 4 L, field 4 4 1, load 3 4, print 3", "new 4 L, load 3 4, print 3",
		"const 2 N, call 3 F 2, print 3", "call -1 F 0", "const 2 N, go 0 F 2", "go 0 F 4", "const 2 N, defer 0 F 2", "global 4 G, lock 4", "recv 3 0 -1, print 3",
	}
	if one := slices.DeleteFunc(slices.Clone(p.Funcs), func(f api.Func) bool { return f.Params != 1 }); closures && len(one) > 0 {
		name := pick(a, one).Name
		for _, s := range []string{"callc 3", "goc 3", "deferc 3", "load 2 3, print 2", "global 6 G, store 6 3"} {
			forms = append(forms, "global 4 G, const 5 N, closure 3 "+name+" 2, "+s)
		}
		forms = append(forms, "cap 3 0, load 3 3, print 3", "cap 3 1, print 3")
	}
	text := pick(a, forms)
	var b strings.Builder
	for _, c := range text {
		switch c {
		case 'G':
			b.WriteString(pick(a, p.Globals).Name)
		case 'L':
			b.WriteString(showKinds(pick(a, p.Layouts)))
		case 'F':
			b.WriteString(pick(a, p.Funcs).Name)
		case 'N':
			b.WriteString(strconv.Itoa(a.IntN(5)))
		default:
			b.WriteRune(c)
		}
	}
	l := instrsIn(p, b.String())
	for i := range l {
		if l[i].Op == api.OpNew {
			// The text names the first one of equal layouts; the instruction uses any of them.
			l[i].B = a.likeLayout(p, l[i].B)
		}
	}
	return l
}

// likeLayout returns the number of a layout that equals another one.
func (a author) likeLayout(p api.Program, n int) int {
	var l []int
	for i, kinds := range p.Layouts {
		if slices.Equal(kinds, p.Layouts[n]) {
			l = append(l, i)
		}
	}
	return pick(a, l)
}
