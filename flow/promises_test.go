package flow

import (
	"slices"
	"testing"

	"interleave/api"
	"interleave/code"
)

// P13.1: all small functions have the specified results.
func TestAllSmallFunctions(t *testing.T) {
	tried := 0
	for size := 1; size <= 5; size++ {
		for _, f := range smallFunctions(size) {
			tried++
			checkGraph(t, f)
			checkDominance(t, f, onAllPaths(f))
		}
	}
	if tried < 100000 {
		t.Error(tried)
	}
}

// P13.1: random functions have the specified results.
func TestFunctions(t *testing.T) {
	count := map[int]int{}
	unreachable := 0
	for _, f := range functions(6000, 30, 1) {
		requireValid(t, f)
		checkGraph(t, f)
		checkDominance(t, f, dominators(f))
		for pc, reachable := range Reach(f) {
			count[f.Code[pc].Op]++
			if !reachable {
				unreachable++
			}
		}
	}
	for op := api.OpConst; op <= api.OpPrint; op++ {
		if count[op] < 100 {
			t.Error(operations[op], count[op])
		}
	}
	if unreachable < 1000 {
		t.Error(unreachable)
	}
}

// P13.1: functions of up to the largest size, of which some pairs are compared.
func TestLongFunctions(t *testing.T) {
	a := newAuthor(2)
	dominates := map[bool]int{}
	for range 30 {
		f := a.function(700)
		for len(f.Code) > api.MaxCode {
			f = a.function(700)
		}
		requireValid(t, f)
		checkGraph(t, f)
		all := dominators(f)
		for range 500 {
			x, y := a.IntN(len(f.Code)), a.IntN(len(f.Code))
			got := Dominates(f, x, y)
			if got != specifiedDominates(f, all, x, y) {
				t.Fatalf("%s: %d dominates %d: %v", show(f), x, y, got)
			}
			dominates[got]++
		}
	}
	if dominates[true] < 500 || dominates[false] < 5000 {
		t.Error(dominates)
	}
}

// P13.1: the functions of compiled programs have the specified results.
func TestCompiledFunctions(t *testing.T) {
	for _, f := range compiled(t) {
		checkGraph(t, f)
		checkDominance(t, f, dominators(f))
	}
}

// everything returns functions of all kinds.
func everything(t *testing.T, seed uint64) []api.Func {
	t.Helper()
	return slices.Concat(smallFunctions(3), functions(4000, 15, seed), functions(500, 60, seed+1), compiled(t))
}

// P13.2: the blocks are consecutive and cover the function; within a block, an instruction is followed only by the next one, apart from cases.
func TestPromiseOfBlocks(t *testing.T) {
	long := 0
	for _, f := range everything(t, 3) {
		end := 0
		for _, b := range Blocks(f) {
			if b.From != end || b.To <= b.From {
				t.Fatal(show(f), b)
			}
			end = b.To
			var l []int
			for pc := b.From; pc < b.To; pc++ {
				if f.Code[pc].Op != api.OpCase {
					l = append(l, pc)
				}
			}
			for i, pc := range l[:len(l)-1] {
				if !slices.Equal(code.Next(f, pc), l[i+1:i+2]) {
					t.Fatal(show(f), b, pc)
				}
				long++
			}
		}
		if end != len(f.Code) {
			t.Fatal(show(f), end)
		}
	}
	if long < 2000 {
		t.Error(long)
	}
}

// matrix returns the dominance of all pairs of instructions.
func matrix(f api.Func) [][]bool {
	m := make([][]bool, len(f.Code))
	for a := range m {
		for b := range m {
			m[a] = append(m[a], Dominates(f, a, b))
		}
	}
	return m
}

func onlyCases(l []api.Instr) bool {
	return !slices.ContainsFunc(l, func(in api.Instr) bool { return in.Op != api.OpCase })
}

// P13.3: instruction 0 dominates what is reachable; dominance is reflexive there, transitive and, apart from cases, antisymmetric.
func TestPromiseOfDominance(t *testing.T) {
	pairs, cases := 0, 0
	for _, f := range everything(t, 5) {
		reachable, m := Reach(f), matrix(f)
		for a := range m {
			if m[0][a] != reachable[a] || m[a][a] != reachable[a] {
				t.Fatal(show(f), a)
			}
			for b := range m {
				if !m[a][b] {
					continue
				}
				pairs++
				if !reachable[a] || !reachable[b] {
					t.Fatal(show(f), a, b)
				}
				if a != b && m[b][a] {
					cases++
					if !onlyCases(f.Code[min(a, b)+1 : max(a, b)+1]) {
						t.Fatal(show(f), a, b)
					}
				}
				for c := range m {
					if m[b][c] && !m[a][c] {
						t.Fatal(show(f), a, b, c)
					}
				}
			}
		}
	}
	if pairs < 20000 || cases < 500 {
		t.Error(pairs, cases)
	}
}

// P13.4: the order begins with block 0, contains each reachable block once, and has a block before those that its first instruction dominates.
func TestPromiseOfOrder(t *testing.T) {
	compared, moved := 0, 0
	for _, f := range everything(t, 7) {
		blocks, reachable, l := Blocks(f), Reach(f), Order(f)
		if len(l) == 0 || l[0] != 0 {
			t.Fatal(show(f), l)
		}
		position := map[int]int{}
		for i, n := range l {
			if _, found := position[n]; found || n < 0 || n >= len(blocks) {
				t.Fatal(show(f), l)
			}
			position[n] = i
		}
		for n, b := range blocks {
			if _, found := position[n]; found != reachable[b.From] {
				t.Fatal(show(f), l, n)
			}
		}
		for i, a := range l {
			for _, b := range l[:i] {
				if Dominates(f, blocks[a].From, blocks[b].From) {
					t.Fatal(show(f), l, a, b)
				}
				compared++
			}
		}
		if !slices.IsSorted(l) {
			moved++
		}
	}
	if compared < 5000 || moved < 500 {
		t.Error(compared, moved)
	}
}
