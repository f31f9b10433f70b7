package code

import (
	"fmt"
	"math"
	"slices"
	"strings"
	"testing"

	"interleave/api"
)

// P9.1: the registers that instructions read and write. Each row is "INSTRUCTION: REGISTERS READ: REGISTERS WRITTEN".
func TestRegisters(t *testing.T) {
	for row := range strings.SplitSeq(strings.TrimSpace(`
const 1 7: []: [1]
const 1 0: []: [1]
nil 2: []: [2]
move 1 2: [2]: [1]
move 3 3: [3]: [3]
add 1 5 4: [4 5]: [1]
add 1 1 1: [1]: [1]
sub 0 2 1: [1 2]: [0]
mul 6 0 5: [0 5]: [6]
div 1 2 2: [2]: [1]
rem 1 4 3: [3 4]: [1]
neg 1 2: [2]: [1]
not 2 1: [1]: [2]
eq 1 2 3: [2 3]: [1]
ne 1 3 2: [2 3]: [1]
lt 3 2 1: [1 2]: [3]
le 1 2 3: [2 3]: [1]
len 1 2: [2]: [1]
jump 0 0 1: []: []
jumpz 5 0 1: [5]: []
global 5 1: []: [5]
field 5 2 6: [2]: [5]
index 1 4 3: [3 4]: [1]
new 4 1: []: [4]
slice 1 2: [2]: [1]
chan 2 1: [1]: [2]
closure 2 2 0: []: [2]
closure 2 2 1: [3]: [2]
closure 2 2 4: [3 4 5 6]: [2]
cap 3 5: [0]: [3]
cap 0 0: [0]: [0]
call 4 1 3: []: [4]
call -1 1 7: []: []
call 4 2 3: [3]: [4]
call 4 3 4: [4 5]: [4]
call -1 3 5: [5 6]: []
callc 4: [4]: []
defer 0 1 3: []: []
defer 0 3 3: [3 4]: []
deferc 4: [4]: []
return 3: [3]: []
return 0: [0]: []
return -1: []: []
go 0 1 3: []: []
go 0 2 3: [3]: []
go 0 3 3: [3 4]: []
goc 2: [2]: []
load 3 1: [1]: [3]
store 3 1: [1 3]: []
store 2 2: [2]: []
aload 3 1: [1]: [3]
astore 3 1: [1 3]: []
aadd 3 2 1: [1 2]: [3]
acas 0 1 2: [1 2 3]: [0]
acas 0 5 1: [1 2 5]: [0]
acas 2 3 2: [2 3]: [2]
lock 1: [1]: []
unlock 2: [2]: []
rlock 3: [3]: []
runlock 4: [4]: []
group 4 3: [3 4]: []
wait 5: [5]: []
once 6 0 1: [6]: []
onceend 5: [5]: []
send 4 3: [3 4]: []
recv 3 1 -1: [1]: [3]
recv -1 1 3: [1]: [3]
recv -1 1 -1: [1]: []
recv 3 1 2: [1]: [2 3]
recv 2 1 2: [1]: [2]
recv 1 1 1: [1]: [1]
recv 0 1 0: [1]: [0]
close 4: [4]: []
select 4 0 0: []: [4]
select 4 0 1: []: [4]
print 4: [4]: []
`), "\n") {
		parts := strings.Split(row, ": ")
		p := with(7, instrs(parts[0]+"; return -1"))
		if got := fmt.Sprint(Valid(p), Uses(p, 0, 0), Defs(p, 0, 0)); got != "true "+parts[1]+" "+parts[2] {
			t.Errorf("%s: %s", row, got)
		}
	}
}

// P9.1: a select instruction and its cases are one instruction.
func TestRegistersOfSelects(t *testing.T) {
	for row := range strings.SplitSeq(strings.TrimSpace(`
select 0 1 0; case 1 0 2: [1]: [0]
select 0 1 0; case 1 0 -1: [1]: [0]
select 0 1 0; case 2 1 1: [1 2]: [0]
select 3 1 1; case 2 1 2: [2]: [3]
select 0 2 0; case 3 1 4; case 1 1 2: [1 2 3 4]: [0]
select 0 3 1; case 0 0 5; case 6 0 5; case 0 1 0: [0 6]: [0]
select 5 2 0; case 1 0 -1; case 1 0 0: [1]: [5]
`), "\n") {
		parts := strings.Split(row, ": ")
		// The cases of the second select belong to no other one.
		p := with(7, instrs(parts[0]+"; select 1 1 0; case 6 1 6; return -1"))
		if got := fmt.Sprint(Valid(p), Uses(p, 0, 0), Defs(p, 0, 0)); got != "true "+parts[1]+" "+parts[2] {
			t.Errorf("%s: %s", row, got)
		}
		for pc := range p.Funcs[0].Code {
			if p.Funcs[0].Code[pc].Op == api.OpCase && len(Uses(p, 0, pc))+len(Defs(p, 0, pc))+len(Next(p.Funcs[0], pc)) > 0 {
				t.Errorf("%s: case at %d", row, pc)
			}
		}
	}
}

// P9.1: the registers of other functions than the first one, and instructions that do not exist.
func TestRegistersOfFunctions(t *testing.T) {
	p := with(2, instrs("print 1; return -1"))
	p.Funcs[3].Code = instrs("add 2 1 0; return 2")
	for _, x := range []struct {
		fn, pc int
		want   string
	}{
		{0, 0, "[1] []"}, {0, 1, "[] []"}, {1, 0, "[] []"}, {3, 0, "[0 1] [2]"}, {3, 1, "[2] []"},
		{0, 2, "[] []"}, {0, -1, "[] []"}, {3, 2, "[] []"}, {4, 0, "[] []"}, {-1, 0, "[] []"},
		{math.MaxInt, 0, "[] []"}, {math.MinInt, 0, "[] []"}, {0, math.MaxInt, "[] []"}, {0, math.MinInt, "[] []"},
	} {
		if got := fmt.Sprint(Uses(p, x.fn, x.pc), Defs(p, x.fn, x.pc)); got != x.want {
			t.Errorf("%d %d: %s, want %s", x.fn, x.pc, got, x.want)
		}
	}
	if len(Uses(api.Program{}, 0, 0))+len(Defs(api.Program{}, 0, 0)) > 0 {
		t.Error("a program without functions")
	}
}

// P9.1: the most registers.
func TestMostRegisters(t *testing.T) {
	p := with(64, instrs("call 63 4 0; closure 0 2 63; return -1"))
	p.Funcs = append(p.Funcs, api.Func{Name: "all", Params: 64, Regs: 64, Code: instrs("return -1")})
	if !Valid(p) || len(Uses(p, 0, 0)) != 64 || len(Uses(p, 0, 1)) != 63 || Uses(p, 0, 1)[62] != 63 {
		t.Error(Valid(p), Uses(p, 0, 0), Uses(p, 0, 1))
	}
}

// P9.1: what follows instructions. Each row is "INSTRUCTIONS: WHAT FOLLOWS THE FIRST ONE: WHAT FOLLOWS THE SECOND ONE, ...". The
// functions need not be valid.
func TestNext(t *testing.T) {
	for row := range strings.SplitSeq(strings.TrimSpace(`
nil 0; return -1: [1]: []
nil 0; return 0: [1]: []
jump 0 0 0: [0]
jump 0 0 1; jump 0 0 0: [1]: [0]
nil 0; jumpz 0 0 0; jumpz 0 0 1; jumpz 0 0 3; return -1: [1]: [0 2]: [1 3]: [3 4]: []
nil 0; once 0 0 0; once 0 0 2; once 0 0 4; return -1: [1]: [0 2]: [2 3]: [4]: []
jumpz 0 0 1; jumpz 0 0 4; once 0 0 3; return -1: [1]: [2 4]: [3]: []
select 0 0 0; select 0 2 1; case 0; case 0; return -1: [1]: [4]: []: []: []
select 0 8 1; case 0; case 0; case 0; case 0; case 0; case 0; case 0; case 0; jump 0 0 0: [9]: []: []: []: []: []: []: []: []: [0]
call 0 1 0; callc 0; go 0 1 0; goc 0; defer 0 1 0; deferc 0; return -1: [1]: [2]: [3]: [4]: [5]: [6]: []
send 0 0; recv 0 0 0; lock 0; wait 0; onceend 0; close 0; print 0; store 0 0; load 0 0: [1]: [2]: [3]: [4]: [5]: [6]: [7]: [8]: [9]
jump 3 3 -7; jumpz 3 3 99; once 3 3 -1; select 3 -2 3; select 3 100 3; print 0: [-7]: [2 99]: [-1 3]: [2]: [105]: [6]
jump 0 0 9223372036854775807; jumpz 0 0 9223372036854775807; once 0 0 -9223372036854775808: [9223372036854775807]: [2 9223372036854775807]: [-9223372036854775808 3]
case 0; case 1 1 1; unknown; case 0: []: []: [3]: []
`), "\n") {
		parts := strings.Split(row, ": ")
		f := api.Func{Code: instrs(parts[0])}
		for pc, want := range parts[1:] {
			if got := fmt.Sprint(Next(f, pc)); got != want {
				t.Errorf("%s\n%d: %s, want %s", row, pc, got, want)
			}
			if !slices.Equal(Next(f, pc), specifiedNext(f, pc)) {
				t.Errorf("%s\n%d: %v", row, pc, specifiedNext(f, pc))
			}
		}
		for _, pc := range []int{-1, len(f.Code), len(f.Code) + 1, math.MaxInt, math.MinInt} {
			if len(parts) != len(f.Code)+1 || len(Next(f, pc)) > 0 {
				t.Errorf("%s\n%d: %v", row, pc, Next(f, pc))
			}
		}
	}
	for _, op := range []int{-1, 0, api.OpPrint + 1, math.MaxInt} {
		if got := Next(api.Func{Code: []api.Instr{{Op: op, A: 5, B: 5, C: 5}}}, 0); !slices.Equal(got, []int{1}) {
			t.Error(op, got)
		}
	}
	if len(Next(api.Func{}, 0)) > 0 {
		t.Error("a function without code")
	}
}
