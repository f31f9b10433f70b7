package flow

import (
	"slices"

	"interleave/api"
	"interleave/code"
)

// nothing is the number of no instruction.
const nothing = -1

// leaders returns the instructions with which the blocks of a function begin.
func leaders(f api.Func) []int {
	l := []int{0}
	for pc, in := range f.Code {
		switch in.Op {
		case api.OpJump, api.OpJumpZ, api.OpOnce:
			l = append(l, pc+1, in.C)
		case api.OpReturn:
			l = append(l, pc+1)
		}
	}
	slices.Sort(l)
	// There is no instruction behind the last one, and none at all in a function without code.
	return slices.DeleteFunc(slices.Compact(l), func(pc int) bool { return pc < 0 || pc >= len(f.Code) })
}

// blocksAt returns the numbers of the blocks that begin with instructions of a list.
func blocksAt(starts, l []int) []int {
	var numbers []int
	for _, pc := range l {
		// In a valid program, whatever follows the end of a block is a leader.
		if n, found := slices.BinarySearch(starts, pc); found {
			numbers = append(numbers, n)
		}
	}
	return numbers
}

// whole returns the OpSelect of an OpCase, and every other instruction as it is.
func whole(f api.Func, pc int) int {
	for pc > 0 && f.Code[pc].Op == api.OpCase {
		pc--
	}
	return pc
}

// reached reports for each instruction that is no OpCase whether a path from the first one leads to it that does not contain the instruction
// avoided.
func reached(f api.Func, avoided int) []bool {
	l := make([]bool, len(f.Code))
	open := []int{0}
	for len(open) > 0 {
		pc := open[len(open)-1]
		open = open[:len(open)-1]
		if pc == avoided || pc < 0 || pc >= len(l) || l[pc] {
			continue
		}
		l[pc] = true
		open = append(open, code.Next(f, pc)...)
	}
	return l
}
