package flow

import (
	"math"
	"slices"
	"strconv"
	"strings"
	"testing"

	"interleave/api"
)

func showNumbers(l []int) string {
	var words []string
	for _, n := range l {
		words = append(words, strconv.Itoa(n))
	}
	return strings.Join(words, " ")
}

// showBlocks writes blocks such as "0-2 > 1 2, 2-4 >".
func showBlocks(l []api.Block) string {
	var words []string
	for _, b := range l {
		words = append(words, strings.TrimSpace(strconv.Itoa(b.From)+"-"+strconv.Itoa(b.To)+" > "+showNumbers(b.Next)))
	}
	return strings.Join(words, ", ")
}

// showReach writes what is reachable.
func showReach(l []bool) string {
	var numbers []int
	for pc, reachable := range l {
		if reachable {
			numbers = append(numbers, pc)
		}
	}
	return showNumbers(numbers)
}

// showDominators writes for each instruction those that dominate it.
func showDominators(f api.Func) string {
	var words []string
	for b := range f.Code {
		var l []int
		for a := range f.Code {
			if Dominates(f, a, b) {
				l = append(l, a)
			}
		}
		words = append(words, showNumbers(l))
	}
	return strings.Join(words, ", ")
}

// P13.1: the example of the chapter.
func TestExample(t *testing.T) {
	f := function("const, jumpz 4, const, jump 5, const, return")
	requireValid(t, f)
	if s := showBlocks(Blocks(f)); s != "0-2 > 1 2, 2-4 > 3, 4-5 > 3, 5-6 >" {
		t.Error(s)
	}
	if s := showNumbers(Order(f)); s != "0 2 1 3" {
		t.Error(s)
	}
}

// P13.1: blocks begin at the first instruction, at targets, and behind instructions after which the code may not continue.
func TestBlocks(t *testing.T) {
	for text, want := range map[string]string{
		"return":                       "0-1 >",
		"const, return":                "0-2 >",
		"jump 0":                       "0-1 > 0",
		"return, return":               "0-1 >, 1-2 >",
		"const, const, jump 1":         "0-1 > 1, 1-3 > 1",
		"jump 1, return":               "0-1 > 1, 1-2 >",
		"jump 2, const, return":        "0-1 > 2, 1-2 > 2, 2-3 >",
		"jumpz 1, return":              "0-1 > 1, 1-2 >",
		"jumpz 0, return":              "0-1 > 0 1, 1-2 >",
		"jumpz 2, const, return":       "0-1 > 1 2, 1-2 > 2, 2-3 >",
		"const, jumpz 0, return":       "0-2 > 0 1, 2-3 >",
		"once 2, const, return":        "0-1 > 1 2, 1-2 > 2, 2-3 >",
		"once 1, return":               "0-1 > 1, 1-2 >",
		"const, once 0, const, jump 0": "0-2 > 0 1, 2-4 > 0",
		// what unreachable instructions say counts, too
		"return, jump 3, const, const, return":  "0-1 >, 1-2 > 3, 2-3 > 3, 3-5 >",
		"const, const, return, jump 1":          "0-1 > 1, 1-3 >, 3-4 > 1",
		"const, const, return, jumpz 1, return": "0-1 > 1, 1-3 >, 3-4 > 1 3, 4-5 >",
		"const, const, return, once 1, return":  "0-1 > 1, 1-3 >, 3-4 > 1 3, 4-5 >",
		// several jumps to one target, and a target behind a jump
		"jumpz 3, jumpz 3, jump 3, return": "0-1 > 1 3, 1-2 > 2 3, 2-3 > 3, 3-4 >",
		// a select and its cases are one instruction, which does not end a block
		"select 0, return":                                                         "0-2 >",
		"select 2, case, case, return":                                             "0-4 >",
		"select 1, case, select 1, case, return":                                   "0-5 >",
		"const, select 1, case, const, jump 3":                                     "0-3 > 1, 3-5 > 1",
		"select 2, case, case, jumpz, select, jump":                                "0-4 > 0 1, 4-6 > 0",
		"jumpz 2, const, select 1, case, return":                                   "0-1 > 1 2, 1-2 > 2, 2-5 >",
		"jump 1, select 8, case, case, case, case, case, case, case, case, jump 1": "0-1 > 1, 1-11 > 1",
	} {
		f := function(text)
		requireValid(t, f)
		if s := showBlocks(Blocks(f)); s != want {
			t.Errorf("%s: %s, want %s", text, s, want)
		}
	}
}

// P13.1: no instruction but jumps and returns ends a block, and all of them but returns may be followed by the next one.
func TestOperations(t *testing.T) {
	tried := 0
	for _, word := range operations[1:] {
		blocks, reachable := "0-3 >", "0 1 2"
		switch word {
		case "case":
			continue
		case "return":
			blocks, reachable = "0-2 >, 2-3 >", "0 1"
		case "jump":
			blocks, reachable = "0-2 > 0, 2-3 >", "0 1"
		case "jumpz", "once":
			blocks = "0-2 > 0 1, 2-3 >"
		}
		f := function("const, " + word + ", return")
		requireValid(t, f)
		if s := showBlocks(Blocks(f)); s != blocks {
			t.Errorf("%s: %s, want %s", word, s, blocks)
		}
		if s := showReach(Reach(f)); s != reachable {
			t.Errorf("%s: %s, want %s", word, s, reachable)
		}
		tried++
	}
	if tried != api.OpPrint-1 {
		t.Error(tried)
	}
}

// P13.1: what may follow something reachable is reachable, with the cases of a select.
func TestReach(t *testing.T) {
	for text, want := range map[string]string{
		"return":                              "0",
		"jump 0":                              "0",
		"return, return":                      "0",
		"jump 2, const, return":               "0 2",
		"jumpz 2, const, return":              "0 1 2",
		"once 2, return, return":              "0 1 2",
		"jump 3, const, jump 1, return":       "0 3",
		"jump 2, return, jump 1":              "0 1 2",
		"jump 2, return, const, jump 2":       "0 2 3",
		"select 2, case, case, return":        "0 1 2 3",
		"jump 3, select 1, case, return":      "0 3",
		"jump 1, select 1, case, jump 1":      "0 1 2 3",
		"return, select 1, case, return":      "0",
		"select, select 1, case, return":      "0 1 2 3",
		"jump 3, select 1, case, jump 1":      "0 1 2 3",
		"jumpz 3, select 1, case, return":     "0 1 2 3",
		"jump 4, select 2, case, case, jump":  "0 4",
		"call, callc, go, goc, defer, return": "0 1 2 3 4 5",
	} {
		f := function(text)
		requireValid(t, f)
		if s := showReach(Reach(f)); s != want || len(Reach(f)) != len(f.Code) {
			t.Errorf("%s: %s, want %s", text, s, want)
		}
	}
}

// P13.1: the dominators of each instruction. Unreachable instructions have none and are none.
func TestDominates(t *testing.T) {
	for text, want := range map[string]string{
		"return":                       "0",
		"jump 0":                       "0",
		"const, return":                "0, 0 1",
		"return, return":               "0, ",
		"jump 2, const, return":        "0, , 0 2",
		"jumpz 2, const, return":       "0, 0 1, 0 2",
		"jumpz 1, const, return":       "0, 0 1, 0 1 2",
		"jumpz 0, const, jump 0":       "0, 0 1, 0 1 2",
		"once 2, const, return":        "0, 0 1, 0 2",
		"jump 2, return, jump 1":       "0, 0 1 2, 0 2",
		"jumpz 3, const, jump, return": "0, 0 1, 0 1 2, 0 3",
		// two ways into a loop
		"jumpz 2, const, const, jump 1": "0, 0 1, 0 2, 0 2 3",
		// two branches that meet, and a loop around them
		"jumpz 3, const, jump 4, const, jumpz 0, return": "0, 0 1, 0 1 2, 0 3, 0 4, 0 4 5",
		// two branches, of which one returns
		"jumpz 2, return, const, return": "0, 0 1, 0 2, 0 2 3",
		// a jump that is unreachable is on no path
		"const, jump 3, jump 3, return": "0, 0 1, , 0 1 3",
		// a case counts as its select
		"select 2, case, case, return":                   "0 1 2, 0 1 2, 0 1 2, 0 1 2 3",
		"const, select 1, case, return":                  "0, 0 1 2, 0 1 2, 0 1 2 3",
		"jumpz 3, select 1, case, return":                "0, 0 1 2, 0 1 2, 0 3",
		"jump 3, select 1, case, return":                 "0, , , 0 3",
		"jump 2, return, select 1, case, jump 1":         "0, 0 1 2 3 4, 0 2 3, 0 2 3, 0 2 3 4",
		"select, select 1, case, select 1, case, return": "0, 0 1 2, 0 1 2, 0 1 2 3 4, 0 1 2 3 4, 0 1 2 3 4 5",
	} {
		f := function(text)
		requireValid(t, f)
		if s := showDominators(f); s != want {
			t.Errorf("%s: %q, want %q", text, s, want)
		}
	}
}

// P13.1: where there is no instruction, nothing dominates and nothing is dominated.
func TestNoInstruction(t *testing.T) {
	for _, text := range []string{"return", "const, return", "select 1, case, return"} {
		f := function(text)
		for _, n := range []int{math.MinInt, -2, -1, len(f.Code), len(f.Code) + 1, math.MaxInt} {
			for _, pc := range []int{n, -1, 0, 1, len(f.Code) - 1, len(f.Code)} {
				if Dominates(f, n, pc) || Dominates(f, pc, n) {
					t.Error(text, n, pc)
				}
			}
		}
	}
}

// P13.1: the order of the reachable blocks.
func TestOrder(t *testing.T) {
	for text, want := range map[string]string{
		"return":                          "0",
		"jump 0":                          "0",
		"return, return":                  "0",
		"jump 2, const, return":           "0 2",
		"jump 2, return, jump 1":          "0 2 1",
		"jumpz 2, return, return":         "0 2 1",
		"jumpz 2, const, return":          "0 1 2",
		"jumpz 2, jump 2, return":         "0 1 2",
		"jumpz 1, return":                 "0 1",
		"jumpz 0, return":                 "0 1",
		"once 3, jumpz 3, return, return": "0 1 3 2",
		// block 2 is visited from block 3, and finished before block 4
		"jumpz 3, jump 3, return, jumpz 2, jump 1": "0 1 3 4 2",
		// two ways into a loop: the first one counts
		"jumpz 2, const, const, jump 1":   "0 1 2",
		"jumpz 3, jump 3, return, jump 1": "0 1 3",
		// the blocks after a loop
		"const, jumpz 4, const, jump 1, return":                   "0 1 3 2",
		"const, jumpz 4, jumpz 1, jump 1, const, jumpz 1, return": "0 1 4 5 2 3",
		// a block is finished after all blocks that are visited from it
		"jumpz 5, jumpz 4, return, return, return, jumpz 7, return, return": "0 5 7 6 1 4 2",
		"select 1, case, jumpz 2, return":                                   "0 1 2",
		"jump 3, select 1, case, jump 1":                                    "0 2 1",
	} {
		f := function(text)
		requireValid(t, f)
		if s := showNumbers(Order(f)); s != want {
			t.Errorf("%s: %s, want %s (blocks %s)", text, s, want, showBlocks(Blocks(f)))
		}
	}
}

// P13.1: the largest function has a block for each instruction, which are ordered as they are, or the other way round.
func TestLargestFunction(t *testing.T) {
	f := api.Func{Name: "main", Regs: 2}
	var forward, back []int
	for pc := range api.MaxCode - 1 {
		f.Code = append(f.Code, api.Instr{Op: api.OpJumpZ, C: pc + 1})
		forward = append(forward, pc)
	}
	f.Code = append(f.Code, api.Instr{Op: api.OpReturn})
	forward = append(forward, api.MaxCode-1)
	requireValid(t, f)
	if l := Order(f); !slices.Equal(l, forward) || !Dominates(f, 500, 999) || Dominates(f, 999, 500) {
		t.Error(l)
	}
	f.Code[0] = api.Instr{Op: api.OpJump, C: api.MaxCode - 1}
	for pc := 2; pc < api.MaxCode; pc++ {
		f.Code[pc] = api.Instr{Op: api.OpJump, C: pc - 1}
	}
	f.Code[1] = api.Instr{Op: api.OpReturn}
	for pc := api.MaxCode - 1; pc > 0; pc-- {
		back = append(back, pc)
	}
	requireValid(t, f)
	if l := Order(f); !slices.Equal(l, append([]int{0}, back...)) || !Dominates(f, 999, 500) || Dominates(f, 500, 999) {
		t.Error(l)
	}
}
