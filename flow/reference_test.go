package flow

import (
	"slices"
	"testing"

	"interleave/api"
	"interleave/code"
)

// isLeader reports whether a block begins with an instruction.
func isLeader(f api.Func, pc int) bool {
	if pc == 0 {
		return true
	}
	for i, in := range f.Code {
		jumps := operations[in.Op] == "jump" || operations[in.Op] == "jumpz" || operations[in.Op] == "once"
		if jumps && in.C == pc || (jumps || operations[in.Op] == "return") && i == pc-1 {
			return true
		}
	}
	return false
}

// specifiedBlocks returns the blocks: it looks at each instruction by itself.
func specifiedBlocks(f api.Func) []api.Block {
	var l []api.Block
	for pc := range f.Code {
		if isLeader(f, pc) {
			l = append(l, api.Block{From: pc})
		}
		l[len(l)-1].To = pc + 1
	}
	for n, b := range l {
		last := b.To - 1
		for f.Code[last].Op == api.OpCase {
			last--
		}
		for next, c := range l {
			if slices.Contains(code.Next(f, last), c.From) {
				l[n].Next = append(l[n].Next, next)
			}
		}
	}
	return l
}

// specifiedReach returns what is reachable: it applies the definition until nothing changes.
func specifiedReach(f api.Func) []bool {
	l := make([]bool, len(f.Code))
	l[0] = true
	for changed := true; changed; {
		changed = false
		for pc, in := range f.Code {
			if !l[pc] {
				continue
			}
			more := code.Next(f, pc)
			for k := 1; in.Op == api.OpSelect && k <= in.B; k++ {
				more = append(more, pc+k)
			}
			for _, next := range more {
				changed = changed || !l[next]
				l[next] = true
			}
		}
	}
	return l
}

// onAllPaths returns for each instruction that is no OpCase the instructions that all paths to it contain, or nil if there is no path. It
// follows every path that contains no instruction twice.
func onAllPaths(f api.Func) [][]bool {
	all := make([][]bool, len(f.Code))
	path := make([]bool, len(f.Code))
	var extend func(pc int)
	extend = func(pc int) {
		if path[pc] {
			return
		}
		path[pc] = true
		if all[pc] == nil {
			all[pc] = slices.Clone(path)
		}
		for i := range path {
			all[pc][i] = all[pc][i] && path[i]
		}
		for _, next := range code.Next(f, pc) {
			extend(next)
		}
		path[pc] = false
	}
	extend(0)
	return all
}

// dominators returns the same as onAllPaths. It removes dominators from all reachable instructions until the sets agree.
func dominators(f api.Func) [][]bool {
	all := make([][]bool, len(f.Code))
	for pc, reachable := range specifiedReach(f) {
		if reachable && f.Code[pc].Op != api.OpCase {
			all[pc] = slices.Repeat([]bool{true}, len(f.Code))
		}
	}
	all[0] = make([]bool, len(f.Code))
	all[0][0] = true
	for changed := true; changed; {
		changed = false
		for pc := range f.Code {
			if all[pc] == nil {
				continue
			}
			for _, next := range code.Next(f, pc) {
				for i, dominates := range all[next] {
					if dominates && !all[pc][i] && i != next {
						all[next][i] = false
						changed = true
					}
				}
			}
		}
	}
	return all
}

// specifiedDominates looks up dominance in the result of onAllPaths or dominators.
func specifiedDominates(f api.Func, all [][]bool, a, b int) bool {
	if min(a, b) < 0 || max(a, b) >= len(f.Code) {
		return false
	}
	for f.Code[a].Op == api.OpCase {
		a--
	}
	for f.Code[b].Op == api.OpCase {
		b--
	}
	return all[b] != nil && all[b][a]
}

// specifiedOrder returns the order of the blocks: a stack has the blocks that are visited but not finished, with what is left of their Next.
func specifiedOrder(f api.Func) []int {
	type open struct {
		n    int
		next []int
	}
	blocks := specifiedBlocks(f)
	visited := map[int]bool{0: true}
	stack := []open{{0, blocks[0].Next}}
	var l []int
	for len(stack) > 0 {
		top := &stack[len(stack)-1]
		if len(top.next) == 0 {
			l = slices.Insert(l, 0, top.n)
			stack = stack[:len(stack)-1]
			continue
		}
		n := top.next[0]
		top.next = top.next[1:]
		if !visited[n] {
			visited[n] = true
			stack = append(stack, open{n, blocks[n].Next})
		}
	}
	return l
}

func equalBlocks(a, b api.Block) bool {
	return a.From == b.From && a.To == b.To && slices.Equal(a.Next, b.Next)
}

// checkGraph requires the specified results of the functions that only have a function as an argument.
func checkGraph(t *testing.T, f api.Func) {
	t.Helper()
	if got, want := Blocks(f), specifiedBlocks(f); !slices.EqualFunc(got, want, equalBlocks) {
		t.Fatalf("%s: blocks %v, want %v", show(f), got, want)
	}
	if got, want := Reach(f), specifiedReach(f); !slices.Equal(got, want) {
		t.Fatalf("%s: reachable %v, want %v", show(f), got, want)
	}
	if got, want := Order(f), specifiedOrder(f); !slices.Equal(got, want) {
		t.Fatalf("%s: order %v, want %v", show(f), got, want)
	}
}

// checkDominance requires the specified dominance for all pairs of numbers, some of which are no instructions.
func checkDominance(t *testing.T, f api.Func, all [][]bool) {
	t.Helper()
	for a := -1; a <= len(f.Code); a++ {
		for b := -1; b <= len(f.Code); b++ {
			if got, want := Dominates(f, a, b), specifiedDominates(f, all, a, b); got != want {
				t.Fatalf("%s: %d dominates %d: %v, want %v", show(f), a, b, got, want)
			}
		}
	}
}
