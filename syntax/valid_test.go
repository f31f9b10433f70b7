package syntax

import (
	"math"
	"strings"
	"testing"

	"interleave/api"
)

// checkValid requires that n is a file, or that it is none.
func checkValid(t *testing.T, n api.Node, want bool) {
	t.Helper()
	if Valid(n) != want {
		t.Errorf("Valid(%s) is not %t", show(n), want)
	}
}

// P3.1: the root of a file is an NFile; also the file without declarations is one.
func TestRoot(t *testing.T) {
	checkValid(t, file(), true)
	checkValid(t, api.Node{Kind: api.NFile, Kids: kids{}}, true)
	for kind := -1; kind <= api.NLiteral+1; kind++ {
		checkValid(t, node(kind), kind == api.NFile)
		checkValid(t, file(node(kind)), false)
	}
	checkValid(t, function(), false)
	checkValid(t, file(file()), false)
	checkValid(t, api.Node{Kind: math.MinInt}, false)
	checkValid(t, named(api.NFile, "x"), false)
}

// P3.1: a variable has an initial value as a statement only.
func TestInitialValues(t *testing.T) {
	with := named(api.NVar, "x", typed("int"), integer(1))
	without := named(api.NVar, "x", typed("int"), none())
	checkValid(t, file(with), false)
	checkValid(t, file(without), true)
	checkValid(t, within(with, without), true)
	checkValid(t, file(without, with), false)
	checkValid(t, file(named(api.NVar, "x", typed("int"))), false)
	checkValid(t, file(named(api.NVar, "x")), false)
	checkValid(t, file(named(api.NVar, "x", none())), false)
}

// P3.1: which statements begin a case.
func TestCommunications(t *testing.T) {
	got := receive(name("c"))
	for _, x := range []struct {
		n    api.Node
		want bool
	}{
		{none(), true},
		{node(api.NSend, name("c"), integer(1)), true},
		{action(got), true},
		{action(call(got)), false},
		{node(api.NAssign, name("x"), got), true},
		{node(api.NAssign, got, got), true},
		{node(api.NAssign, got, name("x")), false},
		{named(api.NDefine, "x", got), true},
		{named(api.NDefine, "x", integer(1)), false},
		{named(api.NVar, "x", typed("int"), got), false},
		{printing(got), false},
		{node(api.NReturn, got), false},
		{block(), false},
		{got, false},
		{node(api.NExpr), false},
		{node(api.NAssign), false},
		{node(api.NDefine), false},
	} {
		checkValid(t, within(node(api.NSelect, choice(x.n))), x.want)
		checkValid(t, within(node(api.NSelect, choice(none()), choice(x.n, node(api.NReturn)), choice(none()))), x.want)
	}
	checkValid(t, within(node(api.NSelect, node(api.NCase, none()))), false)
	checkValid(t, within(node(api.NSelect, node(api.NCase, none(), none()))), false)
	checkValid(t, within(choice(none())), false)
}

// P3.1: names are the names of layer 2.
func TestNames(t *testing.T) {
	accepted := append([]string{"a", "Z", "x1", "__", "Type", "main"}, names...)
	refused := append([]string{"", " ", " x", "x ", "x\n", "\nx", "x\r", "x//", "//x", "x y", "x.y", "x;", "1", "1x", "-", "é", "x\x00", "x\xff", strings.Repeat("n", 33), strings.Repeat("x ", 10001)}, reserved...)
	for _, s := range accepted {
		checkNamed(t, s, true)
	}
	for _, s := range refused {
		checkNamed(t, s, false)
	}
}

// checkNamed requires that s is a name, or that it is none, for each kind of nodes that have one.
func checkNamed(t *testing.T, s string, want bool) {
	t.Helper()
	for _, n := range []api.Node{
		file(named(api.NStruct, s)),
		file(named(api.NStruct, "T", field(s, typed("int")))),
		file(named(api.NFunc, s, node(api.NParams), none(), block())),
		file(named(api.NFunc, "f", node(api.NParams, field(s, typed("int"))), none(), block())),
		file(named(api.NVar, s, typed("int"), none())),
		file(named(api.NVar, "x", named(api.NPointer, s), none())),
		within(named(api.NDefine, s, integer(1))),
		within(printing(named(api.NMember, s, name("x")))),
		within(printing(name(s))),
		within(printing(named(api.NNew, s))),
	} {
		checkValid(t, n, want)
	}
}

// P3.1: the texts of operators and types.
func TestTexts(t *testing.T) {
	words := strings.Fields(binaryOperators + " " + typeTexts + " ! <- = := & | ^ << ++ . , ( [] [ string *int uint Chan")
	for _, s := range append(words, "", " -", "- ", "&&&&", "[] int", "chan int", "func()", "int ") {
		is := func(list string) bool { return s != "" && strings.Contains(" "+list+" ", " "+s+" ") }
		checkValid(t, within(printing(unary(s, name("x")))), is("- !"))
		checkValid(t, within(printing(binary(s, name("x"), name("y")))), is(binaryOperators))
		checkValid(t, file(named(api.NVar, "x", typed(s), none())), is(typeTexts))
	}
}

// P3.1: numbers of integers and booleans; other numbers have no meaning.
func TestNumbers(t *testing.T) {
	for _, x := range []int{math.MinInt, -2, -1, 0, 1, 2, 255, math.MaxInt} {
		checkValid(t, within(printing(integer(x))), x >= 0)
		checkValid(t, within(printing(boolean(x))), x == 0 || x == 1)
		checkValid(t, within(printing(api.Node{Kind: api.NNil, Num: x})), true)
		checkValid(t, annotate(within(printing(name("x"))), x), true)
	}
}

// nested returns a statement of this many levels whose last node is last, an expression.
func nested(size int, last api.Node) api.Node {
	for range size - 1 - levels(last) {
		last = receive(last)
	}
	return action(last)
}

// P3.1: paths have at most 50 nodes. Nodes without a text of their own count, too.
func TestDepth(t *testing.T) {
	for _, last := range []api.Node{receive(name("x")), receive(integer(1)), receive(literal()), receive(literal(node(api.NFor, none(), block()))), call(name("x"), name("y"))} {
		for size := 40; size <= 60; size++ {
			f := within(nested(size-3, last))
			if levels(f) != size {
				t.Fatal(levels(f), size)
			}
			checkValid(t, f, size <= 50)
			checkValid(t, within(printing(name("x")), nested(size-3, last), printing(name("x"))), size <= 50)
		}
	}
	inner := block()
	for size := 4; size <= 60; size++ {
		checkValid(t, within(inner), size <= 50)
		inner = block(inner)
	}
	other := none()
	for size := 5; size <= 60; size++ {
		checkValid(t, within(node(api.NIf, name("x"), block(), other)), size <= 50)
		other = node(api.NIf, name("x"), block(), other)
	}
}

// P3.1: Valid answers as the table of the chapter demands, for files and for files that are changed in one node.
func TestTable(t *testing.T) {
	seen := map[int]int{}
	for _, f := range files(1500, 9) {
		if !specifiedFile(f) {
			t.Fatal(show(f))
		}
		checkValid(t, f, true)
		for n := range Walk(f) {
			seen[n.Kind]++
		}
	}
	for _, r := range table {
		if seen[r.kind] < 20 {
			t.Error(r.kind, seen[r.kind])
		}
	}
}

// P3.1: see TestTable.
func TestChangedFiles(t *testing.T) {
	valid, invalid := 0, 0
	for _, f := range files(500, 5) {
		if Count(f) > 60 {
			continue
		}
		for _, g := range changes(f) {
			want := specifiedFile(g)
			if Valid(g) != want {
				t.Fatalf("Valid(%s) is not %t", show(g), want)
			}
			if want {
				valid++
			} else {
				invalid++
			}
		}
	}
	if valid < 10000 || invalid < 100000 {
		t.Error(valid, invalid)
	}
}
