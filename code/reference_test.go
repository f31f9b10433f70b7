package code

import (
	"fmt"
	"math"
	"slices"
	"strconv"
	"strings"

	"interleave/api"
)

// operations are the operations by their words.
var operations = map[string]int{
	"const": api.OpConst, "nil": api.OpNil, "move": api.OpMove, "add": api.OpAdd, "sub": api.OpSub, "mul": api.OpMul, "div": api.OpDiv,
	"rem": api.OpRem, "neg": api.OpNeg, "not": api.OpNot, "eq": api.OpEq, "ne": api.OpNe, "lt": api.OpLt, "le": api.OpLe, "len": api.OpLen,
	"jump": api.OpJump, "jumpz": api.OpJumpZ, "global": api.OpGlobal, "field": api.OpField, "index": api.OpIndex, "new": api.OpNew,
	"slice": api.OpSlice, "chan": api.OpChan, "closure": api.OpClosure, "cap": api.OpCap, "call": api.OpCall, "callc": api.OpCallC,
	"defer": api.OpDefer, "deferc": api.OpDeferC, "return": api.OpReturn, "go": api.OpGo, "goc": api.OpGoC, "load": api.OpLoad,
	"store": api.OpStore, "aload": api.OpALoad, "astore": api.OpAStore, "aadd": api.OpAAdd, "acas": api.OpACas, "lock": api.OpLock,
	"unlock": api.OpUnlock, "rlock": api.OpRLock, "runlock": api.OpRUnlock, "group": api.OpGroup, "wait": api.OpWait, "once": api.OpOnce,
	"onceend": api.OpOnceEnd, "send": api.OpSend, "recv": api.OpRecv, "close": api.OpClose, "select": api.OpSelect, "case": api.OpCase,
	"print": api.OpPrint,
}

// operandTable is the table of the chapter.
const operandTable = `
const: A destination, B any integer
nil: A destination
move neg not len slice chan load aload: A destination, B source
add sub mul div rem eq ne lt le index aadd: A destination, B source, C source
acas: A destination, B source, C source, C+1 source
jump: C target
jumpz once: A source, C target
global: A destination, B global
field: A destination, B source, C from 0 to 64
new: A destination, B layout
closure: A destination, B function with one parameter, C from 0 to 63, A+1.. sources
cap: A destination, B from 0 to 62, 0 source
call: A destination or -1, B function, C first argument
defer go: B function, C first argument
return: A source or -1
store astore group send: A source, B source
callc deferc goc lock unlock rlock runlock wait onceend close print: A source
recv: A destination or -1, B source, C destination or -1
select: A destination, B from 0 to 8, C from 0 to 1
case: A source, B from 0 to 1, C the value of the case
`

// wordsOf are the words of the operations, and rows the phrases of their rows.
var wordsOf, rows = func() (map[int]string, map[int][]string) {
	m, n := map[int]string{}, map[int][]string{}
	for row := range strings.SplitSeq(strings.TrimSpace(operandTable), "\n") {
		words, phrases, _ := strings.Cut(row, ": ")
		for word := range strings.FieldsSeq(words) {
			m[operations[word]] = word
			n[operations[word]] = strings.Split(phrases, ", ")
		}
	}
	return m, n
}()

// meaning is what the table says about an instruction.
type meaning struct {
	fits                  bool
	reads, writes, listed []int
}

// meaningOf interprets the row of the table for an instruction of function f.
func meaningOf(p api.Program, f api.Func, in api.Instr) meaning {
	phrases := rows[in.Op]
	m := meaning{fits: len(phrases) > 0}
	unlisted := map[string]int{"A": in.A, "B": in.B, "C": in.C}
	for _, phrase := range phrases {
		name, role, _ := strings.Cut(phrase, " ")
		if v, isOperand := unlisted[name]; isOperand {
			delete(unlisted, name)
			m.listed = append(m.listed, v)
			m.fits = m.fits && m.operand(p, f, in, role, v)
			continue
		}
		m.fits = m.fits && m.further(f, in, name)
	}
	for _, v := range unlisted {
		m.fits = m.fits && v == 0
	}
	return m
}

// operand interprets the role of an operand, and reports whether its value fits.
func (m *meaning) operand(p api.Program, f api.Func, in api.Instr, role string, v int) bool {
	isRegister := v >= 0 && v < f.Regs
	if bounds, ok := strings.CutPrefix(role, "from 0 to "); ok {
		high, _ := strconv.Atoi(bounds)
		return v >= 0 && v <= high
	}
	if role == "the value of the case" {
		role = "destination or -1"
		if in.B == 1 {
			role = "source"
		}
	}
	switch role {
	case "any integer":
		return true
	case "target":
		return v >= 0 && v < len(f.Code) && f.Code[v].Op != api.OpCase
	case "global":
		return v >= 0 && v < len(p.Globals)
	case "layout":
		return v >= 0 && v < len(p.Layouts)
	case "function":
		return v >= 0 && v < len(p.Funcs)
	case "function with one parameter":
		return v >= 0 && v < len(p.Funcs) && p.Funcs[v].Params == 1
	case "first argument":
		last := float64(v) + float64(p.Funcs[in.B].Params)
		for r := v; v >= 0 && last <= float64(f.Regs) && r < v+p.Funcs[in.B].Params; r++ {
			m.reads = append(m.reads, r)
		}
		return v >= 0 && last <= float64(f.Regs)
	case "source", "source or -1":
		if isRegister {
			m.reads = append(m.reads, v)
		}
	case "destination", "destination or -1":
		if isRegister {
			m.writes = append(m.writes, v)
		}
	}
	return isRegister || v == -1 && strings.HasSuffix(role, "or -1")
}

// further interprets the sources that are not operands, and reports whether there are such registers.
func (m *meaning) further(f api.Func, in api.Instr, name string) bool {
	l := map[string][]int{"0": {0}, "C+1": {in.C + 1}}[name]
	for k := 1; name == "A+1.." && k <= in.C; k++ {
		l = append(l, in.A+k)
	}
	m.reads = append(m.reads, l...)
	return !slices.ContainsFunc(l, func(r int) bool { return r >= f.Regs })
}

// specifiedUses returns the registers that an instruction of a valid program reads.
func specifiedUses(p api.Program, fn, pc int) []int {
	f := p.Funcs[fn]
	l := meaningOf(p, f, f.Code[pc]).reads
	switch f.Code[pc].Op {
	case api.OpCase:
		return nil
	case api.OpSelect:
		for k := range f.Code[pc].B {
			l = append(l, meaningOf(p, f, f.Code[pc+1+k]).reads...)
		}
	}
	return set(l...)
}

// specifiedDefs returns the registers that an instruction of a valid program always writes.
func specifiedDefs(p api.Program, fn, pc int) []int {
	f := p.Funcs[fn]
	if f.Code[pc].Op == api.OpCase {
		return nil
	}
	return set(meaningOf(p, f, f.Code[pc]).writes...)
}

// specifiedNext returns the instructions that may follow an instruction of any function.
func specifiedNext(f api.Func, pc int) []int {
	in := f.Code[pc]
	switch wordsOf[in.Op] {
	case "return", "case":
		return nil
	case "jump":
		return set(in.C)
	case "jumpz", "once":
		return set(pc+1, in.C)
	case "select":
		return set(pc + 1 + in.B)
	}
	return set(pc + 1)
}

// set returns numbers in increasing order and without repetitions.
func set(l ...int) []int {
	m := map[int]bool{}
	for _, n := range l {
		m[n] = true
	}
	var sorted []int
	for n := range m {
		sorted = append(sorted, n)
	}
	slices.Sort(sorted)
	return sorted
}

// specifiedText returns the text of a valid program.
func specifiedText(p api.Program) string {
	s := ""
	for _, g := range p.Globals {
		s += fmt.Sprintf("global %s %d\n", g.Name, g.Kind)
	}
	for _, l := range p.Layouts {
		s += "layout"
		for _, kind := range l {
			s += fmt.Sprintf(" %d", kind)
		}
		s += "\n"
	}
	for _, f := range p.Funcs {
		s += fmt.Sprintf("func %s %d %d\n", f.Name, f.Params, f.Regs)
		for pc, in := range f.Code {
			s += fmt.Sprintf("\t%d %s", pc, wordsOf[in.Op])
			for _, v := range meaningOf(p, f, in).listed {
				s += fmt.Sprintf(" %d", v)
			}
			s += "\n"
		}
	}
	return s
}

// specifiedValid reports whether a program is valid.
func specifiedValid(p api.Program) bool {
	funcs, globals := map[string]int{}, map[string]int{}
	kinds := slices.Concat(p.Layouts...)
	for _, f := range p.Funcs {
		funcs[f.Name]++
	}
	for _, g := range p.Globals {
		globals[g.Name]++
		kinds = append(kinds, g.Kind)
	}
	for _, l := range p.Layouts {
		if len(l) > 64 {
			return false
		}
	}
	switch {
	case len(p.Funcs) > 64, len(p.Globals) > 64, len(p.Layouts) > 32:
		return false
	case len(funcs) < len(p.Funcs), len(globals) < len(p.Globals), funcs[""] > 0, globals[""] > 0:
		return false
	case slices.ContainsFunc(kinds, func(kind int) bool { return kind != 0 && kind != 1 }):
		return false
	case p.Main < 0, p.Main >= len(p.Funcs):
		return false
	}
	return p.Funcs[p.Main].Params == 0 && !slices.ContainsFunc(p.Funcs, func(f api.Func) bool { return !specifiedFunc(p, f) })
}

// specifiedFunc reports whether a function of a program is as it is in valid ones.
func specifiedFunc(p api.Program, f api.Func) bool {
	size := len(f.Code)
	if f.Params < 0 || f.Params > f.Regs || f.Regs > 64 || size < 1 || size > 1000 {
		return false
	}
	if last := wordsOf[f.Code[size-1].Op]; last != "return" && last != "jump" {
		return false
	}
	expected := 0 // the number of instructions OpCase that have to follow
	for _, in := range f.Code {
		if (in.Op == api.OpCase) != (expected > 0) || in.At < 0 || !meaningOf(p, f, in).fits {
			return false
		}
		expected = max(expected-1, 0)
		if in.Op == api.OpSelect {
			expected = in.B
		}
	}
	return true
}

// extremes are numbers that are wrong in most places.
var extremes = []int{math.MinInt, math.MinInt + 1, -1 << 32, -2, -1, 0, 1, 2, 3, 8, 9, 62, 63, 64, 65, 1000, 1 << 32, math.MaxInt - 1, math.MaxInt}
