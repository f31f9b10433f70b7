package code

import (
	"math"
	"slices"
	"strings"
	"testing"

	"interleave/api"
)

// P9.1: the text of a program with all instructions.
func TestText(t *testing.T) {
	const s = `const 1 -5; nil 1; move 1 2; add 1 2 3; sub 1 2 3; mul 1 2 3; div 1 2 3; rem 1 2 3; neg 1 2; not 1 2; eq 1 2 3; ne 1 2 3; lt 1 2 3; le 1 2 3; len 1 2; ` +
		`jump 0 0 3; jumpz 1 0 3; global 1 0; field 1 2 3; index 1 2 3; new 1 0; slice 1 2; chan 1 2; closure 1 2 2; cap 1 2; ` +
		`call -1 3 2; callc 1; defer 0 3 2; deferc 1; return -1; go 0 3 2; goc 1; load 1 2; store 1 2; aload 1 2; astore 1 2; aadd 1 2 3; acas 0 1 2; ` +
		`lock 1; unlock 1; rlock 1; runlock 1; group 1 2; wait 1; once 1 0 3; onceend 1; send 1 2; recv 1 2 -1; close 1; ` +
		`select 1 2 1; case 1 0 -1; case 1 1 2; print 1; return 3`
	const want = `global x 0
global y 1
layout 0 1
layout
func main 0 4
	0 const 1 -5
	1 nil 1
	2 move 1 2
	3 add 1 2 3
	4 sub 1 2 3
	5 mul 1 2 3
	6 div 1 2 3
	7 rem 1 2 3
	8 neg 1 2
	9 not 1 2
	10 eq 1 2 3
	11 ne 1 2 3
	12 lt 1 2 3
	13 le 1 2 3
	14 len 1 2
	15 jump 3
	16 jumpz 1 3
	17 global 1 0
	18 field 1 2 3
	19 index 1 2 3
	20 new 1 0
	21 slice 1 2
	22 chan 1 2
	23 closure 1 2 2
	24 cap 1 2
	25 call -1 3 2
	26 callc 1
	27 defer 3 2
	28 deferc 1
	29 return -1
	30 go 3 2
	31 goc 1
	32 load 1 2
	33 store 1 2
	34 aload 1 2
	35 astore 1 2
	36 aadd 1 2 3
	37 acas 0 1 2
	38 lock 1
	39 unlock 1
	40 rlock 1
	41 runlock 1
	42 group 1 2
	43 wait 1
	44 once 1 3
	45 onceend 1
	46 send 1 2
	47 recv 1 2 -1
	48 close 1
	49 select 1 2 1
	50 case 1 0 -1
	51 case 1 1 2
	52 print 1
	53 return 3
func zero 0 0
	0 return -1
func one 1 1
	0 return -1
func two 2 3
	0 return -1
`
	p := with(4, instrs(s))
	if got := Text(p); !Valid(p) || got != want {
		t.Errorf("%v\n%s", Valid(p), got)
	}
	if len(operations) != api.OpPrint || len(rows) != api.OpPrint {
		t.Error(len(operations), len(rows))
	}
}

// P9.1: the texts of small programs, also with names that contain blanks or line feeds.
func TestSmallTexts(t *testing.T) {
	end := instrs("return -1")
	end[0].At = 99 // the text does not contain it
	for _, x := range []struct {
		p    api.Program
		want string
	}{
		{api.Program{Funcs: []api.Func{{Name: "main", Code: end}}}, "func main 0 0\n\t0 return -1\n"},
		{api.Program{Funcs: []api.Func{{Name: "a b\n", Params: 1, Regs: 64, Code: end}, {Name: "\xffé", Code: end}}, Main: 1, Globals: []api.Global{{Name: " x", Kind: 1}}}, "global  x 1\nfunc a b\n 1 64\n\t0 return -1\nfunc \xffé 0 0\n\t0 return -1\n"},
		{api.Program{Funcs: []api.Func{{Name: "f", Code: end}}, Layouts: [][]int{nil, {1}, {0, 0, 1}}}, "layout\nlayout 1\nlayout 0 0 1\nfunc f 0 0\n\t0 return -1\n"},
		{api.Program{Funcs: []api.Func{{Name: "f", Regs: 1, Code: instrs("const 0 9223372036854775807; const 0 -9223372036854775808; return 0")}}}, "func f 0 1\n\t0 const 0 9223372036854775807\n\t1 const 0 -9223372036854775808\n\t2 return 0\n"},
	} {
		if got := Text(x.p); !Valid(x.p) || got != x.want {
			t.Errorf("%q, want %q", got, x.want)
		}
	}
	long := with(4, slices.Repeat(instrs("jump 0 0 999"), 1000))
	if got := Text(long); !strings.Contains(got, "\n\t999 jump 999\nfunc zero") || strings.Count(got, "\n") != 1000+1+4+3+3 {
		t.Error(len(got))
	}
}

// differences are changes of one field of a program, or of the number of its elements.
var differences = map[string]func(p *api.Program){
	"Main":             func(p *api.Program) { p.Main = 1 },
	"function name":    func(p *api.Program) { p.Funcs[1].Name = "one more" },
	"Params":           func(p *api.Program) { p.Funcs[3].Params-- },
	"Regs":             func(p *api.Program) { p.Funcs[0].Regs++ },
	"Op":               func(p *api.Program) { p.Funcs[0].Code[1].Op = api.OpGoC },
	"A":                func(p *api.Program) { p.Funcs[0].Code[0].A = 1 },
	"B":                func(p *api.Program) { p.Funcs[0].Code[0].B++ },
	"C":                func(p *api.Program) { p.Funcs[0].Code[0].C++ },
	"At":               func(p *api.Program) { p.Funcs[0].Code[2].At++ },
	"last instruction": func(p *api.Program) { p.Funcs[3].Code[0].A = 0 },
	"more code":        func(p *api.Program) { p.Funcs[0].Code = append(p.Funcs[0].Code, instr("return -1")) },
	"less code":        func(p *api.Program) { p.Funcs[0].Code = p.Funcs[0].Code[:2] },
	"more functions":   func(p *api.Program) { p.Funcs = append(p.Funcs, api.Func{}) },
	"less functions":   func(p *api.Program) { p.Funcs = p.Funcs[:3] },
	"other order":      func(p *api.Program) { p.Funcs[1], p.Funcs[2] = p.Funcs[2], p.Funcs[1] },
	"global name":      func(p *api.Program) { p.Globals[1].Name = "z" },
	"global kind":      func(p *api.Program) { p.Globals[0].Kind = api.CellRef },
	"more globals":     func(p *api.Program) { p.Globals = append(p.Globals, api.Global{}) },
	"no globals":       func(p *api.Program) { p.Globals = nil },
	"cell":             func(p *api.Program) { p.Layouts[0][1] = api.CellInt },
	"more cells":       func(p *api.Program) { p.Layouts[1] = []int{0} },
	"less cells":       func(p *api.Program) { p.Layouts[0] = p.Layouts[0][:1] },
	"more layouts":     func(p *api.Program) { p.Layouts = append(p.Layouts, nil) },
	"less layouts":     func(p *api.Program) { p.Layouts = p.Layouts[:1] },
	"nothing in it":    func(p *api.Program) { *p = api.Program{} },
}

// P9.1: programs that differ in one place are not equal; a nil slice equals an empty one.
func TestEqual(t *testing.T) {
	p := with(4, instrs("recv 2 2 2; callc 1; return -1"))
	if !Equal(p, copied(p)) || !Equal(api.Program{}, api.Program{}) {
		t.Error("equal programs")
	}
	for name, change := range differences {
		q := copied(p)
		change(&q)
		if Equal(p, q) || Equal(q, p) || !Equal(q, copied(q)) {
			t.Error(name)
		}
	}
	empty := api.Program{Funcs: []api.Func{}, Globals: []api.Global{}, Layouts: [][]int{}}
	if !Equal(empty, api.Program{}) || !Equal(api.Program{}, empty) {
		t.Error("nil lists")
	}
	some := api.Program{Funcs: []api.Func{{}}, Layouts: [][]int{nil, {}}, Main: math.MinInt}
	same := api.Program{Funcs: []api.Func{{Code: []api.Instr{}}}, Layouts: [][]int{{}, nil}, Main: math.MinInt}
	if !Equal(some, same) || !Equal(same, some) {
		t.Error("nil lists within lists")
	}
}
