package fold

import (
	"math"
	"slices"
	"strings"
	"testing"

	"interleave/api"
	"interleave/check"
	"interleave/syntax"
)

// allFiles returns random files, of which some follow the rules of layer 6.
func allFiles(t *testing.T) []api.Node {
	t.Helper()
	l := slices.Concat(files(200, 3), files(200, 5), files(80, 7))
	for _, s := range slices.Concat(programs(60, 3), programs(30, 5)) {
		l = append(l, parsed(t, s))
	}
	return l
}

// isShortest reports whether a constant expression is one that folding leaves.
func isShortest(n api.Node) bool {
	v, _ := Value(n)
	switch n.Kind {
	case api.NInt, api.NBool:
		return true
	case api.NUnary:
		return n.Text == "-" && n.Kids[0].Kind == api.NInt && n.Kids[0].Num > 0 || v == math.MinInt
	}
	_, boolean := booleanOperators[n.Text]
	return v == math.MinInt && !boolean
}

var booleanOperators = map[string]bool{"&&": true, "||": true, "==": true, "!=": true, "<": true, "<=": true, ">": true, ">=": true}

// checkFolded requires what P7.2 says of a file.
func checkFolded(t *testing.T, f api.Node) {
	t.Helper()
	n := File(f)
	if !syntax.Valid(n) || syntax.Count(n) > syntax.Count(f) {
		t.Fatalf("%s: %s", syntax.Print(f), show(n))
	}
	if again := File(n); !same(again, n) {
		t.Fatalf("%s: %s, want %s", syntax.Print(n), show(again), show(n))
	}
	for x := range syntax.Walk(n) {
		if _, constant := Value(x); constant && !isShortest(x) {
			t.Fatalf("%s: %s", syntax.Print(f), show(x))
		}
		if x.Kind == api.NIf {
			if _, constant := Value(x.Kids[0]); constant {
				t.Fatalf("%s: %s", syntax.Print(f), show(x))
			}
		}
	}
}

// P7.2: the folded file is a file without further constants, and folding it again changes nothing.
func TestFoldedFiles(t *testing.T) {
	for _, f := range allFiles(t) {
		checkFolded(t, f)
		checkFolded(t, numbered(f))
	}
}

// P7.2: all pairs of numbers at the edges, within other expressions and as conditions.
func TestFoldedNumbers(t *testing.T) {
	values := []int{0, 1, 2, 1 << 62, math.MaxInt, -1, -2, -math.MaxInt, math.MinInt}
	for _, a := range values {
		for _, b := range values {
			for _, s := range strings.Fields("+ - * / % == <") {
				n := op(s, number(a), number(b))
				for _, x := range []api.Node{n, minus(n), minus(minus(n)), op("+", n, name("x")), op("*", n, number(-1)), op("-", n, n), op("/", number(math.MinInt), n)} {
					checkFolded(t, fileOf(bare(api.NPrint, x), branch(x, block(), none()), branch(name("x"), block(), branch(x, block(bare(api.NPrint, x)), none()))))
				}
			}
		}
	}
}

// P7.3: if layer 6 accepts a file, it accepts the folded file.
func TestAcceptedFiles(t *testing.T) {
	c := &chooser{state: 11}
	accepted, chosen := 0, 0
	for _, s := range slices.Concat(programs(150, 2), programs(150, 3), programs(100, 4), programs(60, 5)) {
		f := parsed(t, s)
		checkAccepted(t, f)
		for i := range 8 {
			g := f
			if i > 0 {
				g = changed(f, c)
			}
			if n, _, e := check.Check(g); e == api.OK {
				accepted++
				chosen += conditionals(g) - conditionals(File(g))
				checkAccepted(t, File(g))
				checkAccepted(t, File(n))
			}
		}
	}
	if accepted < 1000 || chosen < 500 {
		t.Error(accepted, chosen)
	}
}

func checkAccepted(t *testing.T, f api.Node) {
	t.Helper()
	if _, at, e := check.Check(f); e != api.OK {
		t.Fatalf("%s: %d %v", syntax.Print(f), at, e)
	}
}

// conditionals returns the number of statements with a condition.
func conditionals(f api.Node) int {
	count := 0
	for n := range syntax.Walk(f) {
		if n.Kind == api.NIf {
			count++
		}
	}
	return count
}

// P7.3: functions with a result terminate, whatever is left of their last statement; what is dropped may declare and use variables.
func TestAcceptedEnds(t *testing.T) {
	for _, s := range []string{
		"if true { return 1 } else { return 2 }",
		"if false { return 1 } else { return 2 }",
		"if x { return 1 } else if true { return 2 } else { return 3 }",
		"if x { return 1 } else if false { return 2 } else { return 3 }",
		"if false { for { } } else if false { for { } } else { { return 1 } }",
		"for { if true { } }",
		"if true { for { } } else { for { } }",
		"if false { y := 1; return y } else { y := true; print(y); return 1 }",
		"y := 2; if true { y := 3; return y } else { return y }",
		"if true { }; return 1",
		"if false { return 1 }; return 2",
		"{ if true { y := 1; return y + 1 } else { return 2 } }",
	} {
		f := parsed(t, "func main() { }; func f(x bool) int { "+s+" }")
		checkAccepted(t, f)
		checkAccepted(t, File(f))
	}
}

// P7.4: folding an expression, anywhere in a file, changes neither its value nor whether it is constant.
func TestKeptValues(t *testing.T) {
	counts := map[bool]int{}
	for _, f := range slices.Concat(files(200, 4), files(100, 6)) {
		for n := range syntax.Walk(f) {
			if !isExpression(n) {
				continue
			}
			before, constant := Value(n)
			after, still := Value(File(fileOf(bare(api.NPrint, n))).Kids[0].Kids[2].Kids[0].Kids[0])
			if after != before || still != constant {
				t.Fatalf("%s: %d %t, want %d %t", show(n), after, still, before, constant)
			}
			counts[constant]++
		}
	}
	if counts[true] < 1000 || counts[false] < 1000 {
		t.Error(counts)
	}
}

// overwrite changes all nodes of a tree, and the spare capacity of its lists of children.
func overwrite(n api.Node) {
	for i := range n.Kids {
		overwrite(n.Kids[i])
	}
	l := n.Kids[:cap(n.Kids)]
	for i := range l {
		l[i] = api.Node{Kind: api.NInt, Num: 13}
	}
}

// copied returns a tree whose lists of children have spare capacity.
func copied(n api.Node) api.Node {
	n.Kids = slices.Grow(slices.Clone(n.Kids), 2)
	for i, k := range n.Kids {
		n.Kids[i] = copied(k)
	}
	spare := n.Kids[len(n.Kids):cap(n.Kids)]
	for i := range spare {
		spare[i] = name("spare")
	}
	return n
}

// intact reports whether the spare capacity of a tree is as copied made it.
func intact(n api.Node) bool {
	for _, k := range n.Kids[len(n.Kids):cap(n.Kids)] {
		if !same(k, name("spare")) {
			return false
		}
	}
	return !slices.ContainsFunc(n.Kids, func(k api.Node) bool { return !intact(k) })
}

// Rules 5 to 7: arguments do not change, results depend on nothing else, they are new memory, and no two lists of one result share any.
func TestMemory(t *testing.T) {
	for _, f := range allFiles(t) {
		f = numbered(f)
		argument := copied(f)
		first, second := File(argument), File(f)
		for n := range syntax.Walk(argument) {
			Value(n)
		}
		if !same(argument, f) || !intact(argument) {
			t.Fatalf("%s is changed", syntax.Print(f))
		}
		if !same(first, second) {
			t.Fatalf("%s: %s and %s", syntax.Print(f), show(first), show(second))
		}
		overwrite(argument)
		if !same(first, second) {
			t.Fatalf("the result for %s shares memory with the argument", syntax.Print(f))
		}
		overwrite(first)
		if n := File(f); !same(n, second) {
			t.Fatalf("results for %s share memory", syntax.Print(f))
		}
		checkSeparate(t, second)
	}
}

// checkSeparate requires that no list of children of a tree shares memory with another one.
func checkSeparate(t *testing.T, n api.Node) {
	t.Helper()
	known := map[*api.Node]bool{}
	for x := range syntax.Walk(n) {
		l := x.Kids[:cap(x.Kids)]
		for i := range l {
			if known[&l[i]] {
				t.Fatalf("shared: %s", show(x))
			}
			known[&l[i]] = true
		}
	}
}

// P1: every call ends, also for trees with many levels and for nodes that contain themselves.
func TestTotality(t *testing.T) {
	for kind := -2; kind <= api.NLiteral+2; kind++ {
		for _, s := range []string{"", "-", "!", "+", "&&"} {
			for count := range 4 {
				round := make(kids, count)
				for i := range round {
					round[i] = api.Node{Kind: kind, Text: s, Kids: round}
				}
				n := api.Node{Kind: kind, Text: s, Kids: round}
				if count > 0 {
					checkNone(t, n)
					checkNone(t, op("+", digits(1), n))
					checkNone(t, op("+", n, n))
				}
				for _, f := range []api.Node{n, bare(api.NFile, n), fileOf(bare(api.NPrint, minus(n))), fileOf(branch(n, block(), none())), fileOf(branch(truth(1), n, none()))} {
					if got := File(f); count > 0 && !same(got, api.Node{}) {
						t.Errorf("%d %q: %d", kind, s, got.Kind)
					}
				}
			}
		}
	}
	for i := range 2 {
		round := kids{digits(1), digits(1)}
		round[i] = api.Node{Kind: api.NBinary, Text: "+", Kids: round}
		checkNone(t, round[i])
	}
	n := digits(1)
	for range 1 << 20 {
		n = minus(n)
	}
	Value(n)
	if got := File(fileOf(bare(api.NPrint, n))); !same(got, api.Node{}) {
		t.Error(got.Kind)
	}
}

// P1 and P7.1: files that are much larger than the trees of texts.
func TestLargeFiles(t *testing.T) {
	n := op("+", digits(1), digits(2))
	wide, call, want := block(), bare(api.NCall, name("f")), bare(api.NCall, name("f"))
	for range 20000 {
		call.Kids, want.Kids = append(call.Kids, n), append(want.Kids, digits(3))
		wide.Kids = append(wide.Kids, branch(op("<", n, digits(3)), block(), branch(name("x"), block(), branch(op("==", n, digits(3)), block(bare(api.NPrint, n)), none()))))
	}
	got := File(fileOf(bare(api.NExpr, call), wide)).Kids[0].Kids[2]
	if !syntax.Equal(got.Kids[0], bare(api.NExpr, want)) || len(got.Kids[1].Kids) != 20000 {
		t.Error("not folded")
	}
	for _, k := range got.Kids[1].Kids {
		if !syntax.Equal(k, branch(name("x"), block(), block(bare(api.NPrint, digits(3))))) {
			t.Fatal(show(k))
		}
	}
	tree := digits(1)
	for range 18 {
		tree = op("+", tree, tree)
	}
	checkValue(t, tree, 1<<18)
}
