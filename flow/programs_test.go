package flow

import (
	"math/rand/v2"
	"slices"
	"strconv"
	"strings"
	"testing"

	"interleave/api"
	"interleave/code"
	"interleave/compile"
)

// operations are the words of the operations, in the order of their numbers.
var operations = strings.Fields("? const nil move add sub mul div rem neg not eq ne lt le len jump jumpz global field index new slice chan closure cap call callc defer deferc return go goc " +
	"load store aload astore aadd acas lock unlock rlock runlock group wait once onceend send recv close select case print")

// function reads the code of a function, such as "const, jumpz 3, select 0, return". The number is a target or a number of cases; the other
// operands are 0, which fits in the program of programWith.
func function(text string) api.Func {
	f := api.Func{Name: "main", Regs: 2}
	for s := range strings.SplitSeq(text, ", ") {
		word, operand, _ := strings.Cut(s, " ")
		n, _ := strconv.Atoi(operand)
		in := api.Instr{Op: slices.Index(operations, word)}
		if in.Op == api.OpSelect {
			in.B = n
		} else {
			in.C = n
		}
		f.Code = append(f.Code, in)
	}
	return f
}

// show writes what function reads.
func show(f api.Func) string {
	var l []string
	for _, in := range f.Code {
		s := operations[in.Op]
		if n := in.B + in.C; n != 0 {
			s += " " + strconv.Itoa(n)
		}
		l = append(l, s)
	}
	return strings.Join(l, ", ")
}

// programWith returns a program in which f is the main function. In it, all operands but targets and numbers of cases can be 0.
func programWith(f api.Func) api.Program {
	one := api.Func{Name: "one", Params: 1, Regs: 1, Code: []api.Instr{{Op: api.OpReturn}}}
	return api.Program{Funcs: []api.Func{one, f}, Globals: []api.Global{{Name: "x"}}, Layouts: [][]int{{0}}, Main: 1}
}

// requireValid requires that a function is one of a valid program.
func requireValid(t *testing.T, f api.Func) {
	t.Helper()
	if !code.Valid(programWith(f)) {
		t.Fatal("not valid: " + show(f))
	}
}

// author writes functions.
type author struct{ *rand.Rand }

func newAuthor(seed uint64) author { return author{rand.New(rand.NewPCG(seed, 13))} }

// function returns a function of a valid program with at most size instructions.
func (a author) function(size int) api.Func {
	f := api.Func{Name: "main", Regs: 2}
	for range a.IntN(size) {
		op := a.operation()
		switch {
		case op == api.OpSelect:
			f.Code = append(f.Code, api.Instr{Op: op, B: a.IntN(4)})
			f.Code = append(f.Code, slices.Repeat([]api.Instr{{Op: api.OpCase}}, f.Code[len(f.Code)-1].B)...)
		case op != api.OpCase:
			f.Code = append(f.Code, api.Instr{Op: op})
		}
	}
	f.Code = append(f.Code, api.Instr{Op: []int{api.OpReturn, api.OpReturn, api.OpJump}[a.IntN(3)]})
	near := 0
	if a.IntN(2) == 0 {
		near = a.IntN(8) + 1
	}
	for pc := range f.Code {
		a.aim(f, pc, near)
	}
	return f
}

// operation returns any operation, but often one after which the code can continue elsewhere.
func (a author) operation() int {
	switch a.IntN(8) {
	case 0, 1:
		return api.OpJumpZ
	case 2:
		return []int{api.OpJump, api.OpJump, api.OpOnce, api.OpReturn}[a.IntN(4)]
	case 3:
		return []int{api.OpSelect, api.OpConst}[a.IntN(2)]
	}
	return a.IntN(api.OpPrint) + 1
}

// aim gives a jump a target: one that is near, unless near is 0.
func (a author) aim(f api.Func, pc, near int) {
	switch f.Code[pc].Op {
	case api.OpJump, api.OpJumpZ, api.OpOnce:
	default:
		return
	}
	for {
		target := a.IntN(len(f.Code))
		if near > 0 {
			target = min(max(pc+a.IntN(2*near+1)-near, 0), len(f.Code)-1)
		}
		if f.Code[target].Op != api.OpCase {
			f.Code[pc].C = target
			return
		}
		near = 0
	}
}

// functions returns random functions of valid programs.
func functions(count, size int, seed uint64) []api.Func {
	a := newAuthor(seed)
	var l []api.Func
	for range count {
		l = append(l, a.function(size))
	}
	return l
}

// smallFunctions returns all functions with a number of instructions from a list that has one operation of every kind that matters.
func smallFunctions(size int) []api.Func {
	var l []api.Func
	var extend func(f api.Func)
	extend = func(f api.Func) {
		if len(f.Code) == size {
			if code.Valid(programWith(f)) {
				l = append(l, f)
			}
			return
		}
		for _, in := range smallInstrs(size) {
			g := f
			g.Code = append(slices.Clone(f.Code), in)
			extend(g)
		}
	}
	extend(api.Func{Name: "main", Regs: 2})
	return l
}

func smallInstrs(size int) []api.Instr {
	l := []api.Instr{{Op: api.OpConst}, {Op: api.OpReturn}, {Op: api.OpSelect}, {Op: api.OpSelect, B: 1}, {Op: api.OpCase}}
	for target := range size {
		l = append(l, api.Instr{Op: api.OpJump, C: target}, api.Instr{Op: api.OpJumpZ, C: target})
	}
	return l
}

// sources are source texts with much control flow.
var sources = []string{
	`var x int; func main() { go func() { x = 1 }(); x = 2 }`,
	`var c chan int; var d chan int; var n int
	func main() { c = make(chan int, 1); d = make(chan int, 0)
	for n < 9 { select { case c <- n: n = n + 1; case i := <-c: print(i); if i > 5 { return }; case <-d: default: n = n + 2 } }; print(n) }`,
	`var o once; var m mutex; var b bool
	func f(i int) int { if i < 2 && b || i == 7 { return 1 } else { if b { print(i) } }
	j := 0; for j < i { j = j + 1; if j == 3 { return f(j) }; for b { m.Lock(); b = false; m.Unlock() } }; return f(i - 1) + f(i - 2) }
	func main() { o.Do(func() { b = true }); for { if f(3) > 2 { o.Do(func() { print(1) }); return }; print(2) }; print(3) }`,
	`func main() { for { select { } }; if true { return }; print(1) }`,
	`func main() { if 1 < 2 && !(2 < 3 || 3 < 4) { return } else { return }; i := 0; for i < 3 { i = i + 1; print(i) }; print(2) }`,
}

// compiled returns the functions of the compiled sources.
func compiled(t *testing.T) []api.Func {
	t.Helper()
	var l []api.Func
	for _, s := range sources {
		p, at, e := compile.Source(s)
		if e != api.OK {
			t.Fatal(s, at, e)
		}
		l = append(l, p.Funcs...)
	}
	return l
}
