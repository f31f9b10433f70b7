package code

import (
	"math"
	"slices"
	"strconv"
	"strings"
	"testing"

	"interleave/api"
)

// P9.1: all operations with all combinations of some operands are valid where the table permits it, and have its registers.
func TestAllOperands(t *testing.T) {
	values := []int{math.MinInt, -2, -1, 0, 1, 2, 3, 4, 8, 9, 62, 63, 64, 65, math.MaxInt}
	valid := map[int]int{}
	for op := -1; op <= api.OpPrint+1; op++ {
		for _, regs := range []int{0, 1, 3, 64} {
			for k := range len(values) * len(values) * len(values) {
				in := api.Instr{Op: op, A: values[k%len(values)], B: values[k/len(values)%len(values)], C: values[k/len(values)/len(values)]}
				p := with(regs, surrounded(in))
				if Valid(p) != specifiedValid(p) {
					t.Fatalf("%d registers: %v %v", regs, in, Valid(p))
				}
				if Valid(p) {
					valid[op]++
					checkResults(t, p)
				}
			}
		}
	}
	for word, op := range operations {
		if valid[op] < 4 {
			t.Errorf("%s: %d", word, valid[op])
		}
	}
}

// surrounded returns a function with an instruction, which may be an OpCase, or an OpSelect with as many cases as it can have.
func surrounded(in api.Instr) []api.Instr {
	l := []api.Instr{in, instr("return -1")}
	switch in.Op {
	case api.OpCase:
		return slices.Insert(l, 0, instr("select 0 1 0"))
	case api.OpSelect:
		return slices.Insert(l, 1, slices.Repeat(instrs("case 0"), min(max(in.B, 0), 9))...)
	}
	return l
}

// checkResults requires the specified registers, successors and text of a valid program.
func checkResults(t *testing.T, p api.Program) {
	t.Helper()
	for fn, f := range p.Funcs {
		for pc := range f.Code {
			if got, want := Uses(p, fn, pc), specifiedUses(p, fn, pc); !slices.Equal(got, want) {
				t.Errorf("%s\n%d %d: reads %v, want %v", Text(p), fn, pc, got, want)
			}
			if got, want := Defs(p, fn, pc), specifiedDefs(p, fn, pc); !slices.Equal(got, want) {
				t.Errorf("%s\n%d %d: writes %v, want %v", Text(p), fn, pc, got, want)
			}
			if got, want := Next(f, pc), specifiedNext(f, pc); !slices.Equal(got, want) {
				t.Errorf("%s\n%d %d: followed by %v, want %v", Text(p), fn, pc, got, want)
			}
		}
	}
	if got, want := Text(p), specifiedText(p); got != want {
		t.Errorf("%s, want\n%s", got, want)
	}
}

// P9.1: random programs are valid and have the specified results.
func TestPrograms(t *testing.T) {
	count := map[string]int{}
	for _, p := range programs(2000, 1) {
		if !Valid(p) || !specifiedValid(p) {
			t.Fatalf("%s\n%v", Text(p), specifiedValid(p))
		}
		checkResults(t, p)
		for _, f := range p.Funcs {
			for _, in := range f.Code {
				count[wordsOf[in.Op]]++
			}
		}
	}
	for word := range operations {
		if count[word] < 100 {
			t.Error(word, count[word])
		}
	}
}

// P9.1: programs with a few changes are valid where it is specified, and have the specified results; they are equal where all of their
// fields are.
func TestChangedPrograms(t *testing.T) {
	a := newAuthor(2)
	valid, same := 0, 0
	for _, p := range programs(6000, 3) {
		q := p
		for range a.IntN(3) + 1 {
			q = a.change(q)
		}
		if Valid(q) != specifiedValid(q) {
			t.Fatalf("%s\n%v", Text(q), Valid(q))
		}
		if Valid(q) {
			valid++
			checkResults(t, q)
		}
		equal := identical(p, q)
		if equal {
			same++
		}
		if Equal(p, q) != equal || Equal(q, p) != equal || !Equal(q, copied(q)) {
			t.Fatalf("%s\n%s\n%v", Text(p), Text(q), equal)
		}
	}
	if valid < 1000 || valid > 5000 || same < 100 {
		t.Error(valid, same)
	}
}

// identical reports whether two programs are written down in the same way.
func identical(p, q api.Program) bool { return written(p) == written(q) }

// written lists all fields of a program; no two programs have the same list.
func written(p api.Program) string {
	var b strings.Builder
	put := func(l ...int) {
		for _, n := range l {
			b.WriteString(strconv.Itoa(n) + ",")
		}
	}
	put(p.Main, len(p.Globals), len(p.Layouts), len(p.Funcs))
	for _, g := range p.Globals {
		b.WriteString(strconv.Quote(g.Name))
		put(g.Kind)
	}
	for _, l := range p.Layouts {
		put(len(l))
		put(l...)
	}
	for _, f := range p.Funcs {
		b.WriteString(strconv.Quote(f.Name))
		put(f.Params, f.Regs, len(f.Code))
		for _, in := range f.Code {
			put(in.Op, in.A, in.B, in.C, in.At)
		}
	}
	return b.String()
}

// P9.2: a program with an operand out of range is not valid.
func TestPromiseOfOperands(t *testing.T) {
	tried := 0
	for _, p := range programs(1500, 4) {
		for fn, f := range p.Funcs {
			for pc, in := range f.Code {
				for _, v := range []int{math.MinInt, -3, api.MaxCode, math.MaxInt} {
					for k := range 3 {
						if in.Op == api.OpConst && k == 1 {
							continue
						}
						q := copied(p)
						x := &q.Funcs[fn].Code[pc]
						*[]*int{&x.A, &x.B, &x.C}[k] = v
						tried++
						if Valid(q) {
							t.Fatalf("%s\n%d %d: operand %d", Text(q), fn, pc, k)
						}
					}
				}
			}
		}
	}
	if tried < 10000 {
		t.Error(tried)
	}
}

// P9.2: in valid programs, what follows are instructions that are not cases, and something follows except behind a return.
func TestPromiseOfNext(t *testing.T) {
	selects := 0
	for _, p := range programs(3000, 5) {
		for _, f := range p.Funcs {
			for pc, in := range f.Code {
				l := Next(f, pc)
				for _, next := range l {
					if next < 0 || next >= len(f.Code) || f.Code[next].Op == api.OpCase {
						t.Fatalf("%s\n%s %d: %v", Text(p), f.Name, pc, l)
					}
				}
				if (len(l) == 0) != (in.Op == api.OpReturn || in.Op == api.OpCase) || !slices.Equal(l, set(l...)) {
					t.Fatalf("%s\n%s %d: %v", Text(p), f.Name, pc, l)
				}
				if in.Op == api.OpSelect {
					selects++
				}
			}
		}
	}
	if selects < 100 {
		t.Error(selects)
	}
}

// P9.3: in valid programs, the registers are less than Regs, increase, and do not repeat.
func TestPromiseOfRegisters(t *testing.T) {
	reads, writes := 0, 0
	for _, p := range programs(3000, 6) {
		for fn, f := range p.Funcs {
			for pc := range f.Code {
				for _, l := range [][]int{Uses(p, fn, pc), Defs(p, fn, pc)} {
					if !slices.Equal(l, set(l...)) || slices.ContainsFunc(l, func(r int) bool { return r < 0 || r >= f.Regs }) {
						t.Fatalf("%s\n%d %d: %v", Text(p), fn, pc, l)
					}
				}
				reads += len(Uses(p, fn, pc))
				writes += len(Defs(p, fn, pc))
			}
		}
	}
	if reads < 10000 || writes < 5000 {
		t.Error(reads, writes)
	}
}

// readText returns the program of a text whose names contain neither blanks nor line feeds, without Main and the offsets.
func readText(s string) api.Program {
	var p api.Program
	for line := range strings.Lines(s) {
		line = strings.TrimSuffix(line, "\n")
		words := strings.Split(strings.TrimPrefix(line, "\t"), " ")
		var numbers []int
		for _, w := range words {
			n, _ := strconv.Atoi(w)
			numbers = append(numbers, n)
		}
		switch {
		case strings.HasPrefix(line, "global"):
			p.Globals = append(p.Globals, api.Global{Name: words[1], Kind: numbers[2]})
		case strings.HasPrefix(line, "layout"):
			p.Layouts = append(p.Layouts, numbers[1:])
		case strings.HasPrefix(line, "func"):
			p.Funcs = append(p.Funcs, api.Func{Name: words[1], Params: numbers[2], Regs: numbers[3]})
		default:
			f := &p.Funcs[len(p.Funcs)-1]
			f.Code = append(f.Code, readInstr(words[1], numbers[2:]))
		}
	}
	return p
}

// readInstr returns the instruction with a word and the operands that its row lists.
func readInstr(word string, numbers []int) api.Instr {
	in := api.Instr{Op: operations[word]}
	for _, phrase := range rows[in.Op] {
		name, _, _ := strings.Cut(phrase, " ")
		if operand := map[string]*int{"A": &in.A, "B": &in.B, "C": &in.C}[name]; operand != nil {
			*operand = numbers[0]
			numbers = numbers[1:]
		}
	}
	return in
}

// P9.4: the text of a valid program determines everything but Main and the offsets.
func TestPromiseOfTexts(t *testing.T) {
	for _, p := range programs(2000, 7) {
		q := readText(Text(p))
		if !Equal(q, withoutOffsets(p)) {
			t.Fatalf("%s\n%s", Text(p), Text(q))
		}
	}
}

// withoutOffsets returns a program without Main and the offsets.
func withoutOffsets(p api.Program) api.Program {
	p = copied(p)
	p.Main = 0
	for _, f := range p.Funcs {
		for pc := range f.Code {
			f.Code[pc].At = 0
		}
	}
	return p
}

// P9.4: valid programs with one difference have the same text if and only if it is in Main or an offset.
func TestPromiseOfDifferentTexts(t *testing.T) {
	a := newAuthor(8)
	same, different := 0, 0
	for _, p := range programs(6000, 9) {
		q := a.change(p)
		if !Valid(q) {
			continue
		}
		want := identical(withoutOffsets(p), withoutOffsets(q))
		if got := Text(p) == Text(q); got != want {
			t.Fatalf("%s\n%s\n%v", Text(p), Text(q), got)
		}
		if !want {
			different++
		} else if !identical(p, q) {
			same++
		}
	}
	if same < 100 || different < 500 {
		t.Error(same, different)
	}
}
