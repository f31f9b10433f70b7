package squeeze

import (
	"slices"
	"strconv"
	"strings"
	"testing"

	"interleave/api"
	"interleave/code"
)

// layouts are the operations with the names of their operands.
const layouts = `const AB nil A move AB add ABC lt ABC jump C jumpz AC once AC global AB new AB closure ABC cap AB call ABC callc A
go BC return A load AB store AB acas ABC recv ABC select ABC case ABC print A`

var numbers = map[string]int{
	"const": api.OpConst, "nil": api.OpNil, "move": api.OpMove, "add": api.OpAdd, "lt": api.OpLt, "jump": api.OpJump, "jumpz": api.OpJumpZ,
	"once": api.OpOnce, "global": api.OpGlobal, "new": api.OpNew, "closure": api.OpClosure, "cap": api.OpCap, "call": api.OpCall,
	"callc": api.OpCallC, "go": api.OpGo, "return": api.OpReturn, "load": api.OpLoad, "store": api.OpStore, "acas": api.OpACas,
	"recv": api.OpRecv, "select": api.OpSelect, "case": api.OpCase, "print": api.OpPrint,
}

// function reads a function from a text such as "const 0 7; return 0".
func function(t *testing.T, params int, text string) api.Func {
	t.Helper()
	words := strings.Fields(layouts)
	f := api.Func{Name: "f", Params: params, Regs: params}
	for line := range strings.SplitSeq(text, ";") {
		l := strings.Fields(line)
		in := api.Instr{Op: numbers[l[0]]}
		for i, c := range words[slices.Index(words, l[0])+1] {
			n, e := strconv.Atoi(l[i+1])
			if e != nil {
				t.Fatal(line)
			}
			*map[rune]*int{'A': &in.A, 'B': &in.B, 'C': &in.C}[c] = n
		}
		f.Code = append(f.Code, in)
	}
	for !isValid(f, paramCounts) && f.Regs < api.MaxRegs {
		f.Regs++
	}
	if !isValid(f, paramCounts) {
		t.Fatal(text)
	}
	return f
}

// listing writes the code of a function as function reads it.
func listing(f api.Func) string {
	var l []string
	for line := range strings.SplitSeq(strings.TrimSpace(code.Text(api.Program{Funcs: []api.Func{f}})), "\n") {
		if words := strings.Fields(line); words[0] != "func" {
			l = append(l, strings.Join(words[1:], " "))
		}
	}
	return strings.Join(l, "; ")
}

// The new code of functions, with the smallest number of registers for which there is one: operands that are copied or made, values
// that wait for each other, loops, closures, results in the registers of operands, and code that is never executed.
func TestExamples(t *testing.T) {
	for _, x := range []struct {
		params, least int
		before, after string
	}{
		{0, 1, "const 0 1; const 1 2; print 0; print 1; return -1",
			"const 0 1; print 0; const 0 2; print 0; return -1"},
		{0, 1, "const 0 1; move 1 0; print 1; print 0; return 1",
			"const 0 1; print 0; print 0; return 0"},
		{0, 2, "global 0 1; load 1 0; global 2 2; load 3 2; add 1 1 3; global 3 0; store 3 1; return -1",
			"global 0 1; load 1 0; global 0 2; load 0 0; add 1 1 0; global 0 0; store 0 1; return -1"},
		{2, 2, "move 2 0; move 3 1; call -1 2 2; return 0",
			"call -1 2 0; return 0"},
		{2, 3, "move 2 1; move 3 0; call -1 2 2; return -1",
			"move 2 0; call -1 2 1; return -1"},
		{2, 3, "move 2 1; move 3 0; call -1 2 2; add 0 0 1; return 0",
			"move 2 0; call -1 2 1; add 0 0 1; return 0"},
		{2, 2, "move 2 0; move 3 0; call 2 2 2; return 2",
			"move 1 0; call 0 2 0; return 0"},
		{3, 4, "move 3 2; move 4 1; move 5 0; call -1 3 3; print 0; print 1; return 2",
			"move 3 2; move 2 0; move 0 3; call -1 3 0; print 2; print 1; return 0"},
		{3, 4, "move 3 2; move 4 0; move 5 1; go 3 3; print 0; print 1; return 2",
			"move 3 2; move 2 1; move 1 0; move 0 3; go 3 0; print 1; print 2; return 0"},
		{0, 2, "const 0 0; const 1 3; lt 2 0 1; jumpz 2 8; const 2 1; add 2 0 2; move 0 2; jump 2; print 0; return -1",
			"const 0 0; const 1 3; lt 1 0 1; jumpz 1 8; const 1 1; add 1 0 1; move 0 1; jump 1; print 0; return -1"},
		{1, 2, "move 1 0; jumpz 0 3; const 1 7; print 0; print 1; return -1",
			"move 1 0; jumpz 0 3; const 1 7; print 0; print 1; return -1"},
		{1, 1, "const 1 5; jumpz 0 3; print 1; print 1; return -1",
			"jumpz 0 3; const 0 5; print 0; const 0 5; print 0; return -1"},
		{1, 2, "jumpz 0 3; const 1 7; jump 5; global 1 2; load 1 1; print 0; print 1; return -1",
			"jumpz 0 3; const 1 7; jump 5; global 1 2; load 1 1; print 0; print 1; return -1"},
		{1, 3, "cap 1 0; load 2 1; cap 3 1; store 3 2; return -1",
			"cap 1 0; load 2 1; cap 1 1; store 1 2; return -1"},
		{1, 3, "cap 2 1; cap 3 0; closure 1 1 2; callc 1; return -1",
			"cap 1 1; cap 2 0; closure 0 1 2; callc 0; return -1"},
		{1, 4, "cap 2 1; cap 3 0; closure 1 1 2; callc 1; cap 1 0; load 1 1; print 1; return -1",
			"cap 2 1; cap 3 0; closure 1 1 2; callc 1; load 3 3; print 3; return -1"},
		{0, 3, "new 0 0; new 1 0; move 3 0; move 4 1; closure 2 1 2; callc 2; load 0 0; load 1 1; add 0 0 1; return 0",
			"new 1 0; new 2 0; closure 0 1 2; callc 0; load 1 1; load 2 2; add 1 1 2; return 1"},
		{0, 4, "new 0 0; new 1 0; new 2 1; move 4 1; move 5 2; closure 3 1 2; callc 3; move 4 2; move 5 1; closure 3 1 2; callc 3; load 0 0; print 0; return -1",
			"new 0 0; new 2 0; new 3 1; closure 1 1 2; callc 1; move 1 3; move 3 0; closure 0 1 2; callc 0; load 3 3; print 3; return -1"},
		{1, 4, "cap 2 0; cap 3 1; closure 1 1 2; callc 1; cap 2 0; cap 3 1; closure 1 1 2; callc 1; return -1",
			"cap 2 0; cap 3 1; closure 1 1 2; callc 1; closure 1 1 2; callc 1; return -1"},
		{1, 2, "cap 2 0; closure 1 1 1; callc 1; new 2 0; closure 1 1 1; callc 1; return -1",
			"cap 1 0; closure 0 1 1; callc 0; new 1 0; closure 0 1 1; callc 0; return -1"},
		{1, 2, "cap 1 0; move 2 1; recv 3 2 -1; jumpz 3 2; print 3; return -1",
			"cap 1 0; recv 1 1 -1; jumpz 1 0; print 1; return -1"},
		{1, 2, "cap 1 0; load 1 1; move 2 1; recv 3 2 -1; print 2; print 3; return -1",
			"cap 1 0; load 1 1; recv 0 1 -1; print 1; print 0; return -1"},
		{3, 4, "move 4 2; move 5 1; cap 6 0; closure 3 1 3; callc 3; return -1",
			"cap 3 0; move 0 2; move 2 1; move 1 0; closure 0 1 3; callc 0; return -1"},
		{2, 4, "const 2 1; const 3 2; acas 2 0 2; print 2; return 1",
			"const 2 1; const 3 2; acas 2 0 2; print 2; return 1"},
		{2, 2, "recv 2 0 3; add 2 2 3; return 2",
			"recv 0 0 1; add 0 0 1; return 0"},
		{2, 3, "const 2 7; select 3 2 1; case 0 1 2; case 1 0 4; const 5 1; lt 5 3 5; jumpz 5 9; print 3; return -1; print 4; return -1",
			"const 2 7; select 0 2 1; case 0 1 2; case 1 0 1; const 2 1; lt 2 0 2; jumpz 2 9; print 0; return -1; print 1; return -1"},
		{1, 3, "jumpz 0 3; load 1 0; jump 8; load 2 0; move 1 0; jumpz 2 8; print 0; load 1 0; print 1; return 0",
			"jumpz 0 3; load 1 0; jump 10; load 1 0; move 2 1; move 1 0; jumpz 2 10; print 0; load 2 0; move 1 2; print 1; return 0"},
		{1, 1, "jump 2; print 0; once 0 5; callc 0; jump 0; return -1",
			"jump 1; once 0 4; callc 0; jump 0; return -1"},
		{1, 1, "print 0; return 0; print 0; jump 2",
			"print 0; return 0"},
	} {
		f := function(t, x.params, x.before)
		g, ok := Func(f, paramCounts, x.least)
		if !ok || listing(g) != x.after || g.Regs != x.least {
			t.Errorf("%s\n%v %d %s", x.before, ok, g.Regs, listing(g))
		}
		if g, ok := Func(f, paramCounts, x.least-1); ok || len(g.Code) > 0 || g.Name != "" || g.Regs != 0 {
			t.Errorf("%s\n%s", x.before, listing(g))
		}
	}
}

// With more registers than needed, values that can be made again stay in them, and so do the values of names in loops.
func TestSpareRegisters(t *testing.T) {
	for _, x := range []struct {
		params, limit int
		before, after string
	}{
		{1, 3, "const 1 7; const 2 8; print 1; print 2; print 1; return 0", "const 1 7; print 1; const 2 8; print 2; print 1; return 0"},
		{1, 3, "const 1 7; print 1; new 2 0; print 2; print 1; return 0", "const 1 7; print 1; new 2 0; print 2; print 1; return 0"},
		{2, 4, "move 2 1; call -1 1 2; new 3 0; print 1; print 2; print 3; return 0", "call -1 1 1; new 2 0; print 1; print 1; print 2; return 0"},
		{2, 3, "const 2 1; move 3 2; call -1 1 3; call -1 1 2; move 2 1; call -1 1 2; return 0", "const 2 1; call -1 1 2; call -1 1 2; call -1 1 1; return 0"},
		{1, 4, "load 1 0; load 2 0; jumpz 0 6; load 1 1; load 2 2; jump 2; print 1; return 2", "load 1 0; load 2 0; jumpz 0 6; load 1 1; load 2 2; jump 2; print 1; return 2"},
	} {
		if g, ok := Func(function(t, x.params, x.before), paramCounts, x.limit); !ok || listing(g) != x.after {
			t.Errorf("%s\n%v %s", x.before, ok, listing(g))
		}
	}
}

// Functions for which there is no new code.
func TestRejectedFunctions(t *testing.T) {
	reject := func(f api.Func, limit int) {
		t.Helper()
		if g, ok := Func(f, paramCounts, limit); ok || g.Name != "" || g.Params != 0 || g.Regs != 0 || len(g.Code) > 0 {
			t.Error(limit, listing(g))
		}
	}
	reject(function(t, 0, "return -1"), 0)
	reject(function(t, 3, "return -1"), 2)
	reject(function(t, 0, "jump 3; print 0; jump 4; jump 1; return -1"), 64) // print is only reached from behind
	many := api.Func{Name: "f", Regs: mostNames, Code: []api.Instr{{Op: api.OpConst}, {Op: api.OpReturn}}}
	if _, ok := Func(many, paramCounts, 1); !ok {
		t.Error(many.Regs)
	}
	many.Regs++
	reject(many, 1)
	for _, x := range []struct {
		op, count int
		ok        bool
	}{{api.OpConst, mostCode, true}, {api.OpConst, mostCode + 1, false}, {api.OpPrint, api.MaxCode, true}, {api.OpPrint, api.MaxCode + 1, false}} {
		long := api.Func{Name: "f", Params: 1, Regs: 1, Code: slices.Repeat([]api.Instr{{Op: x.op}}, x.count)}
		long.Code[x.count-1] = api.Instr{Op: api.OpReturn}
		if _, ok := Func(long, paramCounts, 1); ok != x.ok {
			t.Error(x, ok)
		}
	}
}

// Arguments stay as they are, and results are new memory.
func TestArguments(t *testing.T) {
	const text = "const 2 7; select 3 2 1; case 0 1 2; case 1 0 4; const 5 1; lt 5 3 5; jumpz 5 9; print 3; return -1; print 4; call 1 1 4; return -1"
	f := function(t, 2, text)
	params := slices.Clone(paramCounts)
	for range 2 {
		g, ok := Func(f, params, 4)
		if !ok || listing(f) != text || !slices.Equal(params, paramCounts) {
			t.Error(ok, listing(f), params)
		}
		for i := range g.Code[:cap(g.Code)] {
			g.Code[:cap(g.Code)][i] = api.Instr{Op: api.OpNil}
		}
	}
}
