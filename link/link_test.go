package link

import (
	"math"
	"slices"
	"strconv"
	"strings"
	"testing"

	"interleave/api"
	"interleave/code"
)

// P12.1: parts, and programs that are none.
func TestValid(t *testing.T) {
	for text, want := range map[string]bool{
		"":                                   true,
		"global x 0; layout [01]; layout []": true,
		"import f 0":                         true,
		"import f 64":                        true,
		"import f 65":                        false,
		"import f -1":                        false,
		"import f 1; import g 2":             true,
		"import f 1; import f 1":             false,
		"import f 0; main f":                 false,
		"func f 0 0: return -1; import g 0; main g":                  false,
		"import g 0; func f 0 0: return -1; main f":                  true,
		"func f 0 0: return -1":                                      true,
		"func f 0 0: return -1; main f":                              true,
		"func f 0 1: return 0; main f":                               true,
		"func f 1 1: return -1; main f":                              false,
		"func f 1 1: return -1":                                      true,
		"func f 0 0: return -1; import f 0":                          false,
		"func f 0 0: return -1; func f 0 0: return -1":               false,
		"func f 0 1:":                                                false,
		"func f 1 0:":                                                false,
		"func f 2 1:":                                                false,
		"func f 0 1:; func g 0 0: return -1; main g":                 false,
		"func f 0 0: return 0":                                       false,
		"func f 0 0: call -1 f 0, return -1; main f":                 true,
		"import g 2; func f 0 2: call -1 g 0, return -1":             true,
		"import g 2; func f 0 2: call -1 g 1, return -1":             false,
		"import g 3; func f 0 2: call -1 g 0, return -1":             false,
		"import g 0; func f 0 2: call -1 h 0, return -1":             false,
		"import g 1; func f 0 2: closure 0 g 1, return -1":           true,
		"import g 0; func f 0 2: closure 0 g 1, return -1":           false,
		"import g 2; func f 0 2: closure 0 g 1, return -1":           false,
		"global x 1; func f 0 2: global 0 x, return -1":              true,
		"global x 2; func f 0 2: global 0 x, return -1":              false,
		"global x 0; global x 0":                                     false,
		"global x 0; func f 0 2: global 0 y, return -1":              false,
		"layout [012]":                                               false,
		"layout [01]; func f 0 2: new 0 [01], return -1; import x 0": true,
		"layout [01]; func f 0 2: new 0 [10], return -1":             false,
		"func f 0 2: nil 0":                                          false,
		"func f 0 65: return -1":                                     false,
		"func f 0 2: return -1 0 0 -1":                               false,
	} {
		checkValid(t, text, part(text), want)
	}
}

func checkValid(t *testing.T, name string, p api.Program, want bool) {
	t.Helper()
	if got := Valid(p); got != want || specifiedValid(p) != want {
		t.Errorf("%s: %v, want %v", name, got, want)
	}
	if q, e := Link([]api.Program{p}); !want && (e != api.ErrArg || !code.Equal(q, api.Program{})) || want && e == api.ErrArg {
		t.Errorf("%s: %v %v", name, q, e)
	}
}

// P12.1: Main is -1 or the number of a function with code, and names are not empty.
func TestValidNumbers(t *testing.T) {
	l := part("import f 0; func g 0 0: return -1; func h 0 0: return -1; func i 1 1: return -1; func j 0 1: return -1")
	for main, want := range map[int]bool{math.MinInt: false, -2: false, -1: true, 0: false, 1: true, 2: true, 3: false, 4: true, 5: false, 6: false, math.MaxInt: false} {
		l.Main = main
		checkValid(t, strconv.Itoa(main), l, want)
	}
	for _, main := range []int{-2, 0, 1} {
		checkValid(t, "no functions", api.Program{Main: main}, false)
	}
	checkValid(t, "a zero program", api.Program{}, false)
	for i := range l.Funcs {
		p := copied(l)
		p.Main = -1
		p.Funcs[i].Name = ""
		checkValid(t, "an empty name", p, false)
	}
	checkValid(t, "an empty name", api.Program{Globals: []api.Global{{}}, Main: -1}, false)
	for _, n := range []int{math.MinInt, math.MaxInt, -1, 65} {
		checkValid(t, "a number of registers", api.Program{Funcs: []api.Func{{Name: "f", Params: n, Regs: n}}, Main: -1}, false)
		checkValid(t, "a number of registers", api.Program{Funcs: []api.Func{{Name: "f", Params: n}}, Main: -1}, false)
		checkValid(t, "a number of registers", api.Program{Funcs: []api.Func{{Name: "f", Regs: n}}, Main: -1}, false)
	}
}

// large returns a part with some numbers of definitions, imports, global variables, layouts and cells, with names of one kind.
func large(definitions, imports, globals, layouts, cells int, name func(int) string) api.Program {
	p := api.Program{Main: -1}
	for n := range definitions {
		p.Funcs = append(p.Funcs, api.Func{Name: name(n), Regs: 1, Code: instrsIn(p, "return 0")})
	}
	for n := range imports {
		p.Funcs = append(p.Funcs, api.Func{Name: name(definitions + n)})
	}
	for n := range globals {
		p.Globals = append(p.Globals, api.Global{Name: name(n), Kind: n % 2})
	}
	for n := range layouts {
		p.Layouts = append(p.Layouts, make([]int, cells-n))
	}
	return p
}

// P12.1: the function that completes a part without a main function has a name that no other function has, and needs a place.
func TestValidLimits(t *testing.T) {
	for _, name := range []func(int) string{
		strconv.Itoa,
		func(n int) string { return strconv.Itoa(63 - n) },
		func(n int) string { return strconv.Itoa(n + 1) },
		func(n int) string { return "main" + strconv.Itoa(n) },
		func(n int) string { return strings.Repeat("main", n+1) },
		func(n int) string { return strings.Repeat("_", n+1) },
		func(n int) string { return string(rune(n)) },
		func(n int) string { return string([]byte{byte(n + 192)}) },
	} {
		for _, definitions := range []int{0, 1, 32, 61, 62, 63, 64, 65, 200} {
			for _, all := range []int{0, 1, 32, 62, 63, 64, 65, 200} {
				if all < definitions {
					continue
				}
				p := large(definitions, all-definitions, 0, 0, 0, name)
				checkValid(t, name(1), p, all <= 63)
				p.Main = definitions - 1
				checkValid(t, name(1), p, all <= 63 || all == 64 && definitions > 0)
			}
		}
	}
	for _, globals := range []int{64, 65} {
		for _, layouts := range []int{32, 33} {
			for _, cells := range []int{64, 65} {
				checkValid(t, "lists", large(1, 1, globals, layouts, cells, strconv.Itoa), globals == 64 && layouts == 32 && cells == 64)
			}
		}
	}
	for size, want := range map[int]bool{1: true, 1000: true, 1001: false} {
		checkValid(t, "code", part("func f 0 1: "+strings.Repeat("return 0,", size)), want)
	}
}

// P12.1: a part without a main function becomes a valid program also if it uses the function that completes it. As no part defines that
// function, the part cannot be linked.
func TestUsesOfTheCompletion(t *testing.T) {
	for _, op := range []int{api.OpCall, api.OpDefer, api.OpGo} {
		p := part("func f 0 1: return -1, return -1; import g 0")
		main := part("func m 0 0: return -1; func g 0 0: return -1; main m")
		for use, want := range map[int]bool{0: true, 1: true, 2: true, 3: false, -1: false, math.MaxInt: false} {
			p.Funcs[0].Code[0] = api.Instr{Op: op, B: use}
			checkValid(t, "a use", p, want)
			for other, failure := range map[string]api.Errno{"": api.OK, "func m 0 0: return -1": api.ErrDuplicate, "import m 1": api.ErrMismatch, "import m 0; main m": api.ErrArg} {
				switch {
				case !want:
					failure = api.ErrArg
				case use == 2 && (failure == api.OK || failure == api.ErrMismatch):
					failure = api.ErrName
				}
				l := []api.Program{p, main, part(other)}
				if q, e := Link(l); e != failure || specifiedError(l) != failure || e != api.OK && !code.Equal(q, api.Program{}) {
					t.Errorf("operation %d of %d, %s: %v, want %v", op, use, other, e, failure)
				}
			}
		}
		p.Main = 0
		p.Funcs[0].Code[0].B = 2
		checkValid(t, "a use in a part with a main function", p, false)
	}
	p := part("func f 0 1: return -1, return -1; import g 0")
	p.Funcs[0].Code[0] = api.Instr{Op: api.OpClosure, B: 2}
	checkValid(t, "a closure", p, false)
	p = part("func f 0 1: const 0 1, return -1; func m 0 0: return -1; main m; global x 0")
	p.Main = -1
	p.Funcs[0].Code[0].B = 2
	checkValid(t, "a number that is not that of a function", p, true)
	if q, e := Link([]api.Program{p, part("func n 0 0: return -1; main n")}); e != api.OK || q.Funcs[0].Code[0].B != 2 {
		t.Error(q, e)
	}
}

// checkLink requires the result of linking parts: a program, or a zero one together with an error.
func checkLink(t *testing.T, l []api.Program, want api.Program, failure api.Errno) {
	t.Helper()
	p, e := Link(l)
	if e != failure || !code.Equal(p, want) {
		t.Errorf("%s:\n%s %v, want\n%s %v", showAll(l), show(p), e, show(want), failure)
	}
	if q, f := specifiedLink(l); f != failure || !code.Equal(q, want) {
		t.Errorf("%s: specified are\n%s %v", showAll(l), show(q), f)
	}
}

// P12.1: the programs that linking yields.
func TestLink(t *testing.T) {
	for text, want := range map[string]string{
		"func f 0 0: return -1; main f":                                               "func f 0 0: return -1; main f",
		"func f 0 0: return -1; main f | ":                                            "func f 0 0: return -1; main f",
		" | | func f 0 0: return -1; main f":                                          "func f 0 0: return -1; main f",
		"func f 0 0: return -1 | func g 0 0: return -1; main g":                       "func f 0 0: return -1; func g 0 0: return -1; main g",
		"func g 0 0: return -1; main g | func f 0 0: return -1":                       "func g 0 0: return -1; func f 0 0: return -1; main g",
		"func f 0 0: return -1; func g 0 0: return -1; main g":                        "func f 0 0: return -1; func g 0 0: return -1; main g",
		"import g 0; func f 0 0: return -1; main f | func g 0 0: return -1":           "func f 0 0: return -1; func g 0 0: return -1; main f",
		"import g 0 | func f 0 0: return -1; main f | func g 0 0: return -1":          "func f 0 0: return -1; func g 0 0: return -1; main f",
		"import g 0 | import g 0 | func g 0 3: return -1; main g":                     "func g 0 3: return -1; main g",
		"import g 1; func f 0 2: call 1 g 1, return 1; main f | func g 1 3: return 2": "func f 0 2: call 1 g 1, return 1; func g 1 3: return 2; main f",
		"func g 1 3: return 2 | import g 1; func f 0 2: call 1 g 1, return 1; main f": "func g 1 3: return 2; func f 0 2: call 1 g 1, return 1; main f",
		"import g 1; func f 0 2: closure 0 g 1, call -1 f 0, go 0 g 1, defer 0 g 0, return -1; main f | import f 0; func g 1 1: go 0 f 0, defer 0 f 1, call -1 g 0, return 0": "func f 0 2: closure 0 g 1, call -1 f 0, go 0 g 1, defer 0 g 0, return -1; func g 1 1: go 0 f 0, defer 0 f 1, call -1 g 0, return 0; main f",
		"import h 0; import g 0; func f 0 0: call -1 g 0, call -1 h 0, return -1; main f | import g 0; func h 0 0: call -1 g 0, return -1 | func g 0 0: return -1":            "func f 0 0: call -1 g 0, call -1 h 0, return -1; func h 0 0: call -1 g 0, return -1; func g 0 0: return -1; main f",

		// Global variables.
		"global x 0; global y 1; func f 0 1: global 0 x, global 0 y, return -1; main f | global y 1; global z 0; global x 0; func g 0 1: global 0 x, global 0 y, global 0 z, return -1": "global x 0; global y 1; global z 0; func f 0 1: global 0 x, global 0 y, return -1; func g 0 1: global 0 x, global 0 y, global 0 z, return -1; main f",
		"global y 1 | global x 0; global y 1; func f 0 1: global 0 x, global 0 y, return -1; main f":                                                                                    "global y 1; global x 0; func f 0 1: global 0 x, global 0 y, return -1; main f",
		"global f 1; func f 0 1: global 0 f, call -1 f 0, return -1; main f":                                                                                                            "global f 1; func f 0 1: global 0 f, call -1 f 0, return -1; main f",

		// Layouts: of the two of a part that are equal, the second one has the same number as the first one.
		"layout []; layout [0]; layout [01] | layout [10]; layout [01]; layout []; func f 0 1: new 0 [01], new 0 [10], new 0 [], return -1; main f": "layout []; layout [0]; layout [01]; layout [10]; func f 0 1: new 0 [01], new 0 [10], new 0 [], return -1; main f",
		"layout [1]; layout [1]; layout [0]; layout [1]; func f 0 1: new 0 [0], new 0 [1], return -1; main f":                                       "layout [1]; layout [0]; func f 0 1: new 0 [0], new 0 [1], return -1; main f",

		// Numbers that are those of nothing else.
		"import e 0; func f 0 9: const 1 1, nil 1, move 1 1, jumpz 1 0 5, jump 0 0 5, field 1 1 1, slice 1 1, chan 1 1, cap 1 1, callc 1, deferc 1, goc 1, load 1 1, store 1 1, acas 1 1 1, group 1 1, once 1 0 1, recv 1 1 1, select 1 1 1, case 1 1 1, print 1, return -1 0 0 7; main f | func e 0 0: return -1": "func f 0 9: const 1 1, nil 1, move 1 1, jumpz 1 0 5, jump 0 0 5, field 1 1 1, slice 1 1, chan 1 1, cap 1 1, callc 1, deferc 1, goc 1, load 1 1, store 1 1, acas 1 1 1, group 1 1, once 1 0 1, recv 1 1 1, select 1 1 1, case 1 1 1, print 1, return -1 0 0 7; func e 0 0: return -1; main f",
	} {
		checkLink(t, parts(text), part(want), api.OK)
	}
}

// P12.1: equal layouts of a part are one layout of the program, whichever of them an instruction uses.
func TestEqualLayouts(t *testing.T) {
	p := part("layout [1]; layout [0]; layout [1]; layout [0]; func f 0 1: new 0 [0], new 0 [1], new 0 [0], new 0 [1], return -1; main f")
	for i := range 4 {
		p.Funcs[0].Code[i].B = 3 - i
	}
	want := part("layout [1]; layout [0]; func f 0 1: new 0 [0], new 0 [1], new 0 [0], new 0 [1], return -1; main f")
	if q, e := Link([]api.Program{p}); e != api.OK || !code.Equal(q, want) {
		t.Errorf("%s %v", show(q), e)
	}
}

// P12.1: the errors, and, where several of them apply, the one that is named first.
func TestErrors(t *testing.T) {
	const invalid, main, again = "import m 0; main m", "func m 0 0: return -1; main m", "func n 0 0: return -1; main n"
	const missing, mismatch, kinds = "import h 0", "import m 1", "global x 0 | global x 1"
	many := ""
	for n := range 33 {
		many += "| layout [" + strings.Repeat("0", n) + "]"
	}
	for text, want := range map[string]api.Errno{
		invalid:                          api.ErrArg,
		main + "|" + invalid:             api.ErrArg,
		main:                             api.OK,
		main + "|" + main:                api.ErrDuplicate,
		main + "|" + again:               api.ErrDuplicate,
		main + "| func m 0 0: return -1": api.ErrDuplicate,
		main + "| func m 1 1: return -1": api.ErrDuplicate,
		"func f 0 0: return -1 | func f 0 0: return -1":                         api.ErrDuplicate,
		"func f 0 0: return -1":                                                 api.ErrName,
		"import f 0 | func f 0 0: return -1":                                    api.ErrName,
		main + "|" + missing:                                                    api.ErrName,
		missing + "|" + main:                                                    api.ErrName,
		main + "|" + missing + "| import h 1":                                   api.ErrName,
		main + "; global m 0; import x 0":                                       api.ErrName,
		main + "| import m 0":                                                   api.OK,
		main + "| import m 0 | import m 0":                                      api.OK,
		main + "|" + mismatch:                                                   api.ErrMismatch,
		mismatch + "|" + main:                                                   api.ErrMismatch,
		main + "| import m 0 | import m 1":                                      api.ErrMismatch,
		main + "| import f 1 | func f 0 1: return -1":                           api.ErrMismatch,
		main + "| import f 0 | func f 1 1: return -1":                           api.ErrMismatch,
		main + "| import f 1 | func f 1 2: return -1":                           api.OK,
		main + "|" + kinds:                                                      api.ErrMismatch,
		main + "| global x 1 | global x 1":                                      api.OK,
		main + "| global x 1; global y 0 | global z 0; global y 0 | global y 1": api.ErrMismatch,
		main + many:                                                  api.ErrLimit,
		main + many[strings.Index(many, "]")+1:]:                     api.OK,
		invalid + "|" + main + "|" + main:                            api.ErrArg,
		main + "|" + main + "|" + invalid:                            api.ErrArg,
		missing + "|" + invalid:                                      api.ErrArg,
		kinds + "|" + invalid:                                        api.ErrArg,
		main + many + "|" + invalid:                                  api.ErrArg,
		main + "|" + missing + "|" + again:                           api.ErrDuplicate,
		main + "|" + mismatch + "|" + again:                          api.ErrDuplicate,
		kinds + "|" + main + "|" + again:                             api.ErrDuplicate,
		main + many + "|" + again:                                    api.ErrDuplicate,
		"func f 0 0: return -1 | import g 0 | func f 0 0: return -1": api.ErrDuplicate,
		main + "|" + mismatch + "|" + missing:                        api.ErrName,
		kinds + "|" + main + "|" + missing:                           api.ErrName,
		kinds:                                                        api.ErrName,
		many[1:]:                                                     api.ErrName,
		main + many + "|" + missing:                                  api.ErrName,
		main + many + "|" + mismatch:                                 api.ErrMismatch,
		main + many + "|" + kinds:                                    api.ErrMismatch,
		main + "|" + kinds + many:                                    api.ErrMismatch,
	} {
		if p, e := Link(parts(text)); e != want || e != api.OK && !code.Equal(p, api.Program{}) {
			t.Errorf("%s: %v %v, want %v", text, p, e, want)
		}
		if want != api.ErrLimit && specifiedError(parts(text)) != want {
			t.Errorf("%s: specified is %v", text, specifiedError(parts(text)))
		}
	}
	if p, e := Link(nil); e != api.ErrName || !code.Equal(p, api.Program{}) {
		t.Error(p, e)
	}
}

// P12.1: programs of the greatest size, and of one more. Imports do not count.
func TestLinkLimits(t *testing.T) {
	name := func(n int) string { return "n" + strconv.Itoa(n) }
	for more := range 6 {
		for _, c := range []struct{ first, second api.Program }{
			{large(32, 0, 0, 0, 0, name), large(29+more, 0, 0, 0, 0, strconv.Itoa)},
			{large(0, 0, 40, 0, 0, name), large(0, 0, 22+more, 0, 0, strconv.Itoa)},
			{large(0, 0, 0, 20, 20, name), large(0, 0, 0, 10+more, 64, name)},
		} {
			sizes := []int{len(c.first.Funcs) + len(c.second.Funcs) + 1 - 64, len(c.first.Globals) + len(c.second.Globals) - 64, len(c.first.Layouts) + len(c.second.Layouts) - 32}
			want := api.OK
			if slices.Max(sizes) > 0 {
				want = api.ErrLimit
			}
			l := []api.Program{part("func main 0 0: return -1; main main"), c.first, large(0, 0, 10, 0, 0, name), c.second}
			for _, f := range c.first.Funcs {
				l[2].Funcs = append(l[2].Funcs, api.Func{Name: f.Name})
			}
			if len(c.first.Globals)+len(c.second.Globals) == 0 {
				l[2].Globals = nil
			}
			p, e := Link(l)
			if e != want || e != api.OK && !code.Equal(p, api.Program{}) || e == api.OK && !code.Valid(p) {
				t.Errorf("%d: %v, want %v", sizes, e, want)
			}
			if q, f := specifiedLink(l); e != f || !code.Equal(p, q) {
				t.Errorf("%d: %v, want %v", sizes, e, f)
			}
		}
	}
}

// checkSplit requires the parts of a program, written as texts.
func checkSplit(t *testing.T, text, want string) {
	t.Helper()
	p := part(text)
	got, l := Split(p), parts(want)
	if !slices.EqualFunc(got, l, code.Equal) || !slices.EqualFunc(got, specifiedSplit(p), code.Equal) {
		t.Errorf("%s:\n%s, want\n%s", text, showAll(got), showAll(l))
	}
}

// P12.1: the parts of programs.
func TestSplit(t *testing.T) {
	for text, want := range map[string]string{
		"func f 0 0: return -1; main f":                                           "func f 0 0: return -1; main f",
		"func f 0 0: call -1 f 0, return -1; main f":                              "func f 0 0: call -1 f 0, return -1; main f",
		"func f 0 0: return -1; func g 1 2: return -1; main f":                    "func f 0 0: return -1; main f | func g 1 2: return -1",
		"func f 1 2: return -1; func g 0 0: return -1; main g":                    "func f 1 2: return -1 | func g 0 0: return -1; main g",
		"func main 0 0: call -1 f 0, return -1; func f 0 5: return -1; main main": "func main 0 0: call -1 f 0, return -1; import f 0; main main | func f 0 5: return -1",
		"func f 2 5: return -1; func main 0 3: call 2 f 1, return -1; main main":  "func f 2 5: return -1 | import f 2; func main 0 3: call 2 f 1, return -1; main main",

		// Each instruction that uses a function.
		"func a 1 1: return -1; func b 0 0: return -1; func main 0 3: closure 0 a 2, return -1; main main": "func a 1 1: return -1 | func b 0 0: return -1 | import a 1; func main 0 3: closure 0 a 2, return -1; main main",
		"func a 1 1: return -1; func b 0 0: return -1; func main 0 3: defer 0 b 2, return -1; main main":   "func a 1 1: return -1 | func b 0 0: return -1 | import b 0; func main 0 3: defer 0 b 2, return -1; main main",
		"func a 1 1: return -1; func b 0 0: return -1; func main 0 3: go 0 a 2, return -1; main main":      "func a 1 1: return -1 | func b 0 0: return -1 | import a 1; func main 0 3: go 0 a 2, return -1; main main",
		"func a 1 1: return -1; func b 0 0: return -1; func main 0 3: call 0 b 2, return -1; main main":    "func a 1 1: return -1 | func b 0 0: return -1 | import b 0; func main 0 3: call 0 b 2, return -1; main main",

		// Functions keep their order, also around the own one; each is imported once, also if the code that uses it is never executed.
		"func d 0 0: call -1 a 0, return -1; func b 0 0: call -1 d 0, call -1 a 0, call -1 b 0, return -1, go 0 a 0, call -1 d 0, return -1; func c 0 0: return -1; func a 0 0: return -1; main b": "func d 0 0: call -1 a 0, return -1; import a 0 | import d 0; func b 0 0: call -1 d 0, call -1 a 0, call -1 b 0, return -1, go 0 a 0, call -1 d 0, return -1; import a 0; main b | func c 0 0: return -1 | func a 0 0: return -1",

		// All parts have all global variables and layouts.
		"global x 1; global y 0; layout []; layout [10]; func f 0 1: new 0 [10], return -1; func g 0 1: global 0 y, return -1; main g": "global x 1; global y 0; layout []; layout [10]; func f 0 1: new 0 [10], return -1 | global x 1; global y 0; layout []; layout [10]; func g 0 1: global 0 y, return -1; main g",
		"layout [1]; layout [0]; layout [1]; func f 0 1: new 0 [1], return -1; main f":                                                 "layout [1]; layout [0]; layout [1]; func f 0 1: new 0 [1], return -1; main f",

		// Numbers that are those of nothing else.
		"func f 0 9: const 1 1, nil 1, move 1 1, jumpz 1 0 5, jump 0 0 5, field 1 1 1, slice 1 1, chan 1 1, cap 1 1, callc 1, deferc 1, goc 1, load 1 1, store 1 1, group 1 1, recv 1 1 1, select 1 1 1, case 1 1 1, return -1 0 0 7; func e 0 0: return -1; main e": "func f 0 9: const 1 1, nil 1, move 1 1, jumpz 1 0 5, jump 0 0 5, field 1 1 1, slice 1 1, chan 1 1, cap 1 1, callc 1, deferc 1, goc 1, load 1 1, store 1 1, group 1 1, recv 1 1 1, select 1 1 1, case 1 1 1, return -1 0 0 7 | func e 0 0: return -1; main e",
	} {
		checkSplit(t, text, want)
	}
}

// P12.1: programs that have no parts, and the largest ones that have some.
func TestSplitLimits(t *testing.T) {
	for name, p := range map[string]api.Program{
		"a zero program":    {},
		"no function":       {Main: -1},
		"an import":         part("import f 0; func g 0 0: return -1; main g"),
		"no main":           part("func g 0 0: return -1"),
		"main with a param": part("func g 1 1: return -1; main g"),
		"an operand":        part("func g 1 1: return 1; main g"),
		"two names":         part("func g 0 0: return -1; func g 0 0: return -1; main g"),
	} {
		if l := Split(p); len(l) > 0 {
			t.Errorf("%s: %s", name, showAll(l))
		}
	}
	for _, size := range []int{1, 2, 62, 63, 64, 65, 200} {
		p := large(size, 0, 64, 32, 64, strconv.Itoa)
		p.Main = size / 2
		for k := range p.Funcs {
			p.Funcs[k].Code = nil
			for other := range p.Funcs {
				p.Funcs[k].Code = append(p.Funcs[k].Code, api.Instr{Op: api.OpGo, B: size - 1 - other})
			}
			p.Funcs[k].Code = append(p.Funcs[k].Code, instrsIn(p, "return -1")...)
		}
		l := Split(p)
		if size > 63 {
			if len(l) > 0 {
				t.Error(size, len(l))
			}
			continue
		}
		if !slices.EqualFunc(l, specifiedSplit(p), code.Equal) || len(l) != size || slices.ContainsFunc(l, func(p api.Program) bool { return !Valid(p) }) {
			t.Error(size, len(l))
		}
		if q, e := Link(l); e != api.OK || !code.Equal(q, p) {
			t.Error(size, e)
		}
	}
}

// P12.1: the examples of the chapter.
func TestExamples(t *testing.T) {
	p := part("func main 0 0: call -1 f 0, return -1; func f 0 0: return -1; main main")
	l := Split(p)
	if want := parts("func main 0 0: call -1 f 0, return -1; import f 0; main main | func f 0 0: return -1"); !slices.EqualFunc(l, want, code.Equal) {
		t.Fatal(showAll(l))
	}
	if q, e := Link(l); e != api.OK || !code.Equal(p, q) {
		t.Error(show(q), e)
	}
	q, e := Link([]api.Program{l[1], l[0]})
	if e != api.OK || len(q.Funcs) != 2 || q.Funcs[0].Name != "f" || q.Main != 1 || q.Funcs[1].Code[0].B != 0 {
		t.Error(show(q), e)
	}
	if q, e := Link(l[:1]); e != api.ErrName || !code.Equal(q, api.Program{}) {
		t.Error(show(q), e)
	}
}

// P12.1: names may have any bytes. Functions, global variables and layouts do not get into each other's way.
func TestNames(t *testing.T) {
	for _, name := range []string{"\x00\x01", "a b", "\n", "\xff", "global", strings.Repeat("n", 100000)} {
		p := api.Program{
			Funcs:   []api.Func{{Name: name, Regs: 1, Code: []api.Instr{{Op: api.OpGlobal, B: 1}, {Op: api.OpNew, B: 1}, {Op: api.OpGo, B: 1}, {Op: api.OpReturn, A: -1}}}, {Name: "f"}},
			Globals: []api.Global{{Name: "f"}, {Name: name}},
			Layouts: [][]int{{1}, {0, 1}},
		}
		q := api.Program{Funcs: []api.Func{{Name: "\x01", Code: instrsIn(p, "return -1")}, {Name: "f", Code: instrsIn(p, "return -1")}}, Globals: []api.Global{{Name: name}}, Layouts: [][]int{{0, 1}}, Main: -1}
		got, e := Link([]api.Program{q, p})
		if e != api.OK || !code.Valid(got) || len(got.Funcs) != 3 || got.Main != 2 || got.Funcs[2].Name != name || got.Globals[0].Name != name {
			t.Fatalf("%.10q: %v", name, e)
		}
		for i, want := range []int{0, 0, 1} {
			if got.Funcs[2].Code[i].B != want {
				t.Errorf("%.10q: %v", name, got.Funcs[2].Code)
			}
		}
	}
}
