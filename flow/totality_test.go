package flow

import (
	"math"
	"slices"
	"testing"

	"interleave/api"
)

// call calls all functions, and requires that they name only instructions and blocks that exist.
func call(t *testing.T, f api.Func, places []int) {
	t.Helper()
	blocks := Blocks(f)
	isNone := func(n int) bool { return n < 0 || n >= len(blocks) }
	for _, b := range blocks {
		if b.From < 0 || b.From >= b.To || b.To > len(f.Code) || slices.ContainsFunc(b.Next, isNone) {
			t.Fatal(f, b)
		}
	}
	if len(Reach(f)) != len(f.Code) || slices.ContainsFunc(Order(f), isNone) {
		t.Fatal(f, Reach(f), Order(f))
	}
	for _, a := range places {
		for _, b := range places {
			if Dominates(f, a, b) && (min(a, b) < 0 || max(a, b) >= len(f.Code)) {
				t.Fatal(f, a, b)
			}
		}
	}
}

// P1: no call panics, and every call ends, also for functions of which no valid program consists.
func TestAnyFunctions(t *testing.T) {
	a := newAuthor(10)
	extremes := []int{math.MinInt, -2, -1, 8, 9, 1000, math.MaxInt}
	number := func() int {
		if a.IntN(4) > 0 {
			return a.IntN(8) - 1
		}
		return extremes[a.IntN(len(extremes))]
	}
	call(t, api.Func{}, []int{-1, 0, 1})
	for range 50000 {
		f := api.Func{Params: number(), Regs: number()}
		for range a.IntN(7) {
			op := []int{api.OpJump, api.OpJumpZ, api.OpOnce, api.OpSelect, api.OpCase, api.OpReturn, a.IntN(api.OpPrint + 1), number()}[a.IntN(8)]
			f.Code = append(f.Code, api.Instr{Op: op, A: number(), B: number(), C: number(), At: number()})
		}
		call(t, f, []int{math.MinInt, -1, 0, 1, 2, 3, 4, 5, 6, 7, math.MaxInt})
	}
}

// P1: sizes far beyond the limits.
func TestLargeFunctions(t *testing.T) {
	const many = 1 << 16
	for _, next := range []func(pc int) api.Instr{
		func(pc int) api.Instr { return api.Instr{Op: api.OpJump, C: pc + 1} },
		func(pc int) api.Instr { return api.Instr{Op: api.OpJumpZ, C: many - pc} },
		func(pc int) api.Instr { return api.Instr{Op: api.OpOnce, C: pc * pc % many} },
		func(pc int) api.Instr { return api.Instr{Op: api.OpSelect, B: pc} },
		func(pc int) api.Instr { return api.Instr{Op: api.OpCase} },
		func(pc int) api.Instr { return api.Instr{Op: api.OpReturn} },
		func(pc int) api.Instr { return api.Instr{Op: api.OpConst} },
	} {
		f := api.Func{Regs: 2}
		for pc := range many {
			f.Code = append(f.Code, next(pc))
		}
		call(t, f, []int{0, many / 2, many - 1, many})
	}
}

// Rule 5 of the document: arguments are not modified, with their spare capacity, and results share no memory.
func TestMemory(t *testing.T) {
	for _, f := range functions(1000, 20, 11) {
		f.Code = append(f.Code, api.Instr{Op: 7})[:len(f.Code)]
		before := slices.Clone(f.Code)
		blocks := Blocks(f)
		for i := range blocks {
			other := Blocks(f)
			next := other[i].Next[:cap(other[i].Next)]
			for k := range next {
				next[k] = -7
			}
			for k, b := range other {
				if k != i && !equalBlocks(b, blocks[k]) {
					t.Fatal(show(f), k)
				}
			}
		}
		clear(Reach(f))
		clear(Order(f))
		call(t, f, []int{0, 1, 2, 3})
		checkGraph(t, f)
		if !slices.Equal(f.Code, before) || f.Code[:len(f.Code)+1][len(f.Code)] != (api.Instr{Op: 7}) {
			t.Fatal(show(f))
		}
	}
}
