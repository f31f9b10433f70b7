package check

import (
	"strings"
	"testing"

	"interleave/api"
)

// wrong is a text with a @ in front of the token whose offset the error has, and the kind of the node with this offset.
type wrong struct {
	text string
	kind int
	e    api.Errno
}

func checkTexts(t *testing.T, l []wrong) {
	t.Helper()
	for _, x := range l {
		checkText(t, x.text, x.kind, x.e)
	}
}

// P6.1: no declaration has the name of an earlier one, whatever both declare.
func TestDuplicateDeclarations(t *testing.T) {
	all := []struct {
		text string
		kind int
	}{{"type a struct { }", api.NStruct}, {"var a int", api.NVar}, {"func a() { }", api.NFunc}}
	for _, x := range all {
		for _, y := range all {
			checkText(t, x.text+"; func main() { }; @"+y.text, y.kind, api.ErrDuplicate)
			checkText(t, "var b *U; "+x.text+"; @"+y.text+"; "+x.text, y.kind, api.ErrDuplicate)
			accepted(t, parsed(t, x.text+"; func main() { }; "+strings.Replace(y.text, " a", " aa", 1)))
		}
	}
	checkTexts(t, []wrong{
		{"func main() { }; @func main() { }", api.NFunc, api.ErrDuplicate},
		{"func main() int { }; @var main *T", api.NVar, api.ErrDuplicate},
		{"var a int; var b int; var c int; @var b bool; var a bool", api.NVar, api.ErrDuplicate},
	})
}

// P6.1: structs and global variables, whose types may be of any kind.
func TestStructsAndVariables(t *testing.T) {
	checkTexts(t, []wrong{
		{"type T struct { a int; @a int }; func main() { }", api.NField, api.ErrDuplicate},
		{"type T struct { a int; b bool; c *T; @b *U; c int }; func main() { }", api.NField, api.ErrDuplicate},
		{"type T struct { a @*U }; func main() { }", api.NPointer, api.ErrName},
		{"type T struct { a *T; b @*U; a int }; func main() { }", api.NPointer, api.ErrName},
		{"type T struct { a @*main }; func main() { }", api.NPointer, api.ErrName},
		{"type T struct { a @*b }; var b int; func main() { }", api.NPointer, api.ErrName},
		{"type T struct { a @*a }; func main() { }", api.NPointer, api.ErrName},
		{"var p @*T; func main() { }", api.NPointer, api.ErrName},
		{"var p @*p; func main() { }", api.NPointer, api.ErrName},
		{"var p @*main; func main() { }", api.NPointer, api.ErrName},
	})
	for _, s := range strings.Split("int,bool,*T,*U,[]int,chan int,func(),mutex,rwmutex,group,once,atomic", ",") {
		accepted(t, parsed(t, "func main() { }; var p "+s+"; type T struct { p "+s+"; T "+s+"; main int }; type U struct { p int; U *U }"))
	}
}

// P6.1: parameters and results.
func TestFunctions(t *testing.T) {
	checkTexts(t, []wrong{
		{"func f(a int, @a int) { }; func main() { }", api.NField, api.ErrDuplicate},
		{"func f(a int, b bool, @a *T, b int) { }; func main() { }", api.NField, api.ErrDuplicate},
		{"func f(a @*T, a int) { }; func main() { }", api.NPointer, api.ErrName},
		{"func f(a @mutex, b *T) { }; func main() { }", api.NType, api.ErrType},
		{"func f(a int, b @atomic) group { return 1 }; func main() { }", api.NType, api.ErrType},
		{"func f(a int, b @*f) group { }; func main() { }", api.NPointer, api.ErrName},
		{"func f() @*T { x = 1 }; func main() { }", api.NPointer, api.ErrName},
		{"func f(a int) @once { x = 1 }; func main() { }", api.NType, api.ErrType},
		{"func f() int { @x = 1 }; func main() { }", api.NName, api.ErrName},
		{"func f(a int) { @a := 1 }; func main() { }", api.NDefine, api.ErrDuplicate},
		{"func f(b int, a int) { @var a bool; b := 1 }; func main() { }", api.NVar, api.ErrDuplicate},
	})
	for _, s := range strings.Split("mutex,rwmutex,group,once,atomic", ",") {
		checkText(t, "func main() { }; func f(a @"+s+") { }", api.NType, api.ErrType)
		checkText(t, "func main() { }; func f() @"+s+" { for { } }", api.NType, api.ErrType)
	}
	for _, s := range strings.Split("int,bool,*T,[]int,chan int,func()", ",") {
		accepted(t, parsed(t, "func main() { }; func f(a "+s+", b "+s+") "+s+" { return b }; type T struct { }"))
		accepted(t, parsed(t, "type f struct { a int }; func g(f "+s+", g "+s+", main int) "+s+" { { a := f; f := a; return f } }; func main() { }; type T struct { }"))
	}
}

// P6.1: the function main.
func TestMain(t *testing.T) {
	for _, s := range []string{"", "func f() { }", "var main int", "type main struct { }", "var main func()", "func Main() { }; func mainx() { }"} {
		checkRejected(t, numbered(parsed(t, s)), 0, api.ErrName)
	}
	checkRejected(t, numbered(bare(api.NFile)), 0, api.ErrName)
	checkTexts(t, []wrong{
		{"func f() { }; @func main(a int) { }", api.NFunc, api.ErrType},
		{"@func main() int { for { } }; var x int", api.NFunc, api.ErrType},
		{"@func main(a int, b bool) int { return a }; var x int", api.NFunc, api.ErrType},
		{"func main(a int) int { return a }; var x @*T", api.NPointer, api.ErrName},
		{"@func main() int { }", api.NFunc, api.ErrType},
		{"func f() { @x = 1 }", api.NName, api.ErrName},
	})
	accepted(t, parsed(t, "func main() { }"))
	accepted(t, parsed(t, "var x int; func f() { main() }; func main() { f(); main() }"))
}

// P6.1: functions with a result terminate. A @ in front of the function says that these statements do not.
func TestTermination(t *testing.T) {
	const (
		before = "func f(a bool) int { "
		after  = " }; func main() { }"
	)
	endless := []string{"return 1", "for { }", "for { return 1 }", "x := 1; return x", "for a { }; for { }; return 1", "{ return 1 }", "{ { for { } } }", "{ x := 2; { return x } }",
		"if a { return 1 } else { return 2 }", "if a { for { } } else if a { return 2 } else { { return 3 } }", "if a { } else { }; return 1",
		"if a { if a { return 1 } else { return 2 } } else if !a { return 3 } else if a { return 4 } else { for { } }"}
	ending := []string{"", "a = true", "for a { return 1 }", "for true { }", "{ }", "{ return 1; a = true }", "return 1; { }", "{ return 1 }; a = true", "return 1; x := 1", "return 1; var x int",
		"if a { return 1 }", "if a { return 1 } else { }", "if a { } else { return 1 }", "if a { return 1 } else if a { return 2 }", "if a { return 1 } else if a { } else { return 2 }",
		"if true { return 1 }", "if a { return 1 } else { return 2 }; print(1)", "if a { for a { } } else { return 1 }", "select { }", "select { default: return 1 }", "print(1)", "f(true)",
		"func() { for { } }()", "x := 1; x = 2", "go f(true)", "defer f(true)", "{ { return 1 }; { } }", "return 1; func() { }()", "c := make(chan int, 1); close(c)", "c := make(chan int, 1); c <- 1", "c := make(chan int, 1); <-c"}
	for _, s := range endless {
		accepted(t, parsed(t, before+s+after))
	}
	for _, s := range ending {
		checkText(t, "@"+before+s+after, api.NFunc, api.ErrType)
		accepted(t, parsed(t, before+strings.TrimPrefix(s+"; for { }", "; ")+after))
		resultless := strings.NewReplacer("return 1", "return", "return 2", "return", "bool) int", "bool)")
		accepted(t, parsed(t, resultless.Replace(before+s+after)))
	}
}

// P6.1: the declarations are checked in order, and no name is declared twice in any of them.
func TestOrderOfDeclarations(t *testing.T) {
	l := []wrong{
		{"type A struct { a int; @a int }", api.NField, api.ErrDuplicate},
		{"type B struct { b @*X }", api.NPointer, api.ErrName},
		{"var C @*X", api.NPointer, api.ErrName},
		{"func D(x int, @x int) { }", api.NField, api.ErrDuplicate},
		{"func E(x @*X) { }", api.NPointer, api.ErrName},
		{"func F() @mutex { }", api.NType, api.ErrType},
		{"@func G() int { }", api.NFunc, api.ErrType},
		{"func H() { @x = 1 }", api.NName, api.ErrName},
		{"func I() { print(@nil) }", api.NNil, api.ErrType},
	}
	right := func(x wrong) string { return strings.Replace(x.text, "@", "", 1) }
	for i, x := range l {
		for k, y := range l {
			if i == k {
				continue
			}
			checkText(t, "var z int; "+x.text+"; "+right(y), x.kind, x.e)
			checkText(t, x.text+"; func main() { }; "+right(y)+"; func z() { }", x.kind, x.e)
			name := strings.Fields(strings.Replace(right(y), "(", " ", 1))[1]
			checkText(t, right(x)+"; "+right(y)+"; @var "+name+" int", api.NVar, api.ErrDuplicate)
		}
	}
}

// P6.1: what is wrong in declarations that are not checked yet does not matter for those in front of them.
func TestWrongDeclarationsBehind(t *testing.T) {
	checkTexts(t, []wrong{
		{"func main() { p = nil; x := p; x = p }; var p @*T", api.NPointer, api.ErrName},
		{"func main() { p@.a = 1 }; var p *T", api.NMember, api.ErrName},
		{"func main() { f()@.a = 1 }; func f() *T { }", api.NMember, api.ErrName},
		{"func main() { f(); print(f() == nil) }; func f() @*T { }", api.NPointer, api.ErrName},
		{"func main() { f(nil) }; func f(a @*T) int { }", api.NPointer, api.ErrName},
		{"func main() { f(@m) }; func f(a mutex) { }; var m mutex", api.NName, api.ErrType},
		{"func main() { f(@1) }; func f(a mutex) { }", api.NInt, api.ErrType},
		{"func main() { f(@nil) }; func f(a mutex) { }", api.NNil, api.ErrType},
		{"func main() { f() }; func f() @mutex { }", api.NType, api.ErrType},
		{"func main() { x := f@() }; func f() mutex { }", api.NCall, api.ErrType},
		{"func main() { f()@.Lock() }; func f() mutex { }", api.NMember, api.ErrType},
		{"func main() { p.a = 1; p.a = @true }; var p *T; type T struct { a int; a bool }", api.NBool, api.ErrType},
		{"func main() { p.a = 1 }; var p *T; type T struct { a int; @a bool }", api.NField, api.ErrDuplicate},
		{"func main() { p.b = nil; p.b@.c = 1 }; var p *T; type T struct { b *X }", api.NMember, api.ErrName},
		{"func main() { p.b = nil }; var p *T; type T struct { b @*X }", api.NPointer, api.ErrName},
		{"func main() { f(1, true) }; func f(a int, @a bool) { }", api.NField, api.ErrDuplicate},
		{"func main() { f(1, @1) }; func f(a int, a bool) { }", api.NInt, api.ErrType},
	})
}

// P6.1: what is no file of layer 3.
func TestNoFiles(t *testing.T) {
	main := texted(api.NFunc, "main", bare(api.NParams), none(), bare(api.NBlock))
	for kind := -1; kind <= api.NLiteral+1; kind++ {
		for _, l := range []kids{nil, {main}, {name("x")}, {none()}} {
			if f := bare(kind, l...); kind != api.NFile || len(l) == 1 && l[0].Kind != api.NFunc {
				checkRejected(t, numbered(f), 0, api.ErrArg)
			}
		}
	}
	checkRejected(t, texted(api.NFile, "x", main), 0, api.ErrArg)
	checkRejected(t, bare(api.NFile, main, main, texted(api.NVar, "if", typed("int"), none())), 0, api.ErrArg)
	checkRejected(t, bare(api.NFile, main, texted(api.NVar, "x", typed("int"), api.Node{Kind: api.NInt})), 0, api.ErrArg)
	body := []api.Node{bare(api.NPrint, api.Node{Kind: api.NInt, Num: -1}), bare(api.NPrint, api.Node{Kind: api.NBool, Num: 2}), bare(api.NPrint), bare(api.NExpr, name("x")), none()}
	for _, n := range body {
		checkRejected(t, numbered(within(n)), 0, api.ErrArg)
	}
}

// within returns a file with a statement.
func within(n api.Node) api.Node {
	return bare(api.NFile, texted(api.NFunc, "main", bare(api.NParams), none(), bare(api.NBlock, n)))
}

// P6.1: files of 50 levels are checked, and those of 51 are none.
func TestLevels(t *testing.T) {
	yes := api.Node{Kind: api.NBool, Num: 1}
	block := func(n api.Node) api.Node { return bare(api.NBlock, n) }
	for i, wrap := range []func(api.Node) api.Node{
		block,
		func(n api.Node) api.Node { return bare(api.NFor, none(), block(n)) },
		func(n api.Node) api.Node { return bare(api.NIf, yes, block(n), none()) },
		func(n api.Node) api.Node { return bare(api.NIf, yes, bare(api.NBlock), block(n)) },
		func(n api.Node) api.Node {
			return bare(api.NIf, yes, bare(api.NBlock), bare(api.NIf, yes, block(n), none()))
		},
		func(n api.Node) api.Node { return bare(api.NSelect, bare(api.NCase, none(), block(n))) },
		func(n api.Node) api.Node { return bare(api.NExpr, bare(api.NCall, bare(api.NLiteral, block(n)))) },
		func(n api.Node) api.Node { return bare(api.NPrint, texted(api.NUnary, "!", n.Kids[0])) },
		func(n api.Node) api.Node { return bare(api.NPrint, texted(api.NBinary, "&&", n.Kids[0], yes)) },
		func(n api.Node) api.Node { return bare(api.NPrint, texted(api.NBinary, "==", yes, n.Kids[0])) },
	} {
		n := bare(api.NPrint, yes)
		for ; levels(within(n)) <= 50; n = wrap(n) {
			accepted(t, numbered(within(n)))
		}
		if count := levels(within(n)); count > 54 {
			t.Error(i, count)
		}
		checkRejected(t, numbered(within(n)), 0, api.ErrArg)
	}
}
