package fold

import (
	"math"
	"slices"
	"strings"
	"testing"

	"interleave/api"
	"interleave/syntax"
)

// checkValue requires a value of an expression.
func checkValue(t *testing.T, n api.Node, want int) {
	t.Helper()
	if v, ok := Value(n); v != want || !ok {
		t.Errorf("%.500s: %d %t, want %d", show(n), v, ok, want)
	}
}

// checkNone requires that a node is not a constant expression.
func checkNone(t *testing.T, n api.Node) {
	t.Helper()
	if v, ok := Value(n); v != 0 || ok {
		t.Errorf("%.500s: %d %t", show(n), v, ok)
	}
}

// checkReference requires what the reference says of an expression.
func checkReference(t *testing.T, n api.Node) bool {
	t.Helper()
	want, constant := specifiedValue(n)
	if v, ok := Value(n); v != want || ok != constant {
		t.Fatalf("%s: %d %t, want %d %t", show(n), v, ok, want, constant)
	}
	return constant
}

// P7.1: literals, and operators with ordinary operands.
func TestValues(t *testing.T) {
	for s, want := range map[string]int{
		"0": 0, "1": 1, "42": 42, "9223372036854775807": math.MaxInt, "false": 0, "true": 1,
		"-1": -1, "-0": 0, "--5": 5, "-(-1)": 1, "!true": 0, "!false": 1, "!!true": 1, "-9223372036854775807": -math.MaxInt,
		"2 + 3": 5, "2 - 3": -1, "2 * 3": 6, "1 - 3": -2, "2 * 3 + 4": 10, "2 * (3 + 4)": 14, "0 * 7": 0, "-2 * 3": -6,
		"7 / 2": 3, "7 / -2": -3, "-7 / 2": -3, "-7 / -2": 3, "7 % 2": 1, "7 % -2": 1, "-7 % 2": -1, "-7 % -2": -1, "0 / 5": 0, "0 % 5": 0, "6 / 3": 2, "6 % 3": 0, "1 / 2": 0, "1 % 2": 1,
		"1 < 2": 1, "2 < 1": 0, "1 < 1": 0, "1 <= 2": 1, "2 <= 1": 0, "1 <= 1": 1, "1 > 2": 0, "2 > 1": 1, "1 > 1": 0, "1 >= 2": 0, "2 >= 1": 1, "1 >= 1": 1, "-1 < 0": 1, "-2 > -1": 0,
		"1 == 1": 1, "1 == 2": 0, "1 != 1": 0, "1 != 2": 1, "true == true": 1, "true == false": 0, "false == false": 1, "true != true": 0, "false != true": 1, "false != false": 0,
		"true && true": 1, "true && false": 0, "false && true": 0, "false && false": 0, "true || true": 1, "true || false": 1, "false || true": 1, "false || false": 0,
		"1 < 2 && 3 != 4 || 1 / 1 == 0": 1, "(1 < 2) == !(2 <= 1)": 1, "-(3 - 5) % 2": 0, "1 / (2 - 1)": 1, "true && 1 == 2": 0,
	} {
		n := expression(t, s)
		checkValue(t, n, want)
		checkValue(t, numbered(n), want)
		checkReference(t, n)
	}
}

// P7.1: the bits that do not fit are discarded, and the least integer divided by -1 is the least integer, with the remainder 0.
func TestWraparound(t *testing.T) {
	const least, most = "(-9223372036854775807 - 1)", "9223372036854775807"
	for s, want := range map[string]int{
		least: math.MinInt, most + " + 1": math.MinInt, most + " + 2": -math.MaxInt, most + " + " + most: -2, least + " + " + least: 0, least + " + -1": math.MaxInt,
		least + " - 1": math.MaxInt, "0 - " + least: math.MinInt, most + " - -1": math.MinInt, "-" + least: math.MinInt, "--" + least: math.MinInt, "-1 - " + least: math.MaxInt,
		most + " * 2": -2, most + " * " + most: 1, least + " * 2": 0, least + " * -1": math.MinInt, least + " * " + least: 0, least + " * 3": math.MinInt, "4294967296 * 4294967296": 0,
		"4611686018427387904 * 2": math.MinInt, "4611686018427387904 * 4": 0, "3037000500 * 3037000500": -9223372036709301616,
		least + " / -1": math.MinInt, least + " % -1": 0, least + " / 1": math.MinInt, least + " % 1": 0, least + " / " + least: 1, least + " % " + least: 0, least + " / 2": -1 << 62, least + " % 2": 0,
		most + " / -1": -math.MaxInt, most + " % -1": 0, "0 / " + least: 0, "0 % " + least: 0, "-1 % " + least: -1, most + " / " + least: 0, most + " % " + least: math.MaxInt, least + " % 10": -8, least + " / 10": -922337203685477580,
		least + " < " + most: 1, most + " < " + least: 0, least + " == -" + least: 1, most + " + 1 < " + most: 1, least + " - 1 > 0": 1,
	} {
		checkValue(t, expression(t, s), want)
	}
}

// P7.1: expressions that are not constant, among them divisions by 0, operands of wrong types, and operands that do not decide alone.
func TestNoConstants(t *testing.T) {
	for _, s := range strings.Split("x; nil; f(); f(1); 1(); p.x; s[0]; <-c; <-1; len(s); len(1); make([]int, 1); make(chan int, 1); new(T); func() { }; func() { print(1) }; "+
		"1 / 0; 1 % 0; 0 / 0; 0 % 0; 1 / (2 - 2); 1 % -0; (-9223372036854775807 - 1) / 0; (-9223372036854775807 - 1) % 0; 1 / 0 == 1; 1 + 1 / 0; -(1 % 0); false && 1 / 0 == 1; "+
		"-true; !1; !0; -false; -nil; !nil; nil == nil; nil != nil; nil == 1; 1 == true; true == 1; false != 0; 1 + true; true + 1; true + true; false - false; true * true; true / true; true % true; "+
		"1 && 1; 0 || 1; true && 1; 1 && true; 1 || false; false || 0; true < true; false <= true; true > false; true >= 1; 1 < true; x == x; x - x; x * 0; 0 * x; -x; !b; "+
		"false && b; b && false; true || b; b || true; b == b; b != b; true == b; 0 / x; x % 1; 1 + x; x + 1; 1 + 1 + x; x + 1 + 1; x < x; 1 < x; !(true && b); -(x + 1); 2 * (x * 0)", "; ") {
		n := expression(t, s)
		checkNone(t, n)
		checkNone(t, numbered(n))
	}
}

// P7.1: all operators with all pairs of numbers at the edges.
func TestOperators(t *testing.T) {
	values := []int{0, 1, 2, 3, 7, 10, 1<<31 - 1, 1 << 31, 1 << 32, 3037000499, 3037000500, 1 << 62, math.MaxInt - 1, math.MaxInt}
	operands := kids{number(math.MinInt), number(math.MinInt + 1), truth(0), truth(1), bare(api.NNil), name("x")}
	for _, v := range values {
		operands = append(operands, number(v), number(-v))
	}
	for _, a := range operands {
		for _, s := range strings.Fields(binaryOperators + " ! & | = <-") {
			checkReference(t, texted(api.NUnary, s, a))
			for _, b := range operands {
				checkReference(t, op(s, a, b))
				checkReference(t, op(s, minus(a), b))
			}
		}
	}
}

// nearly are nodes that layer 3 does not permit.
func nearly() kids {
	one, yes := digits(1), truth(1)
	l := kids{
		{}, digits(-1), digits(math.MinInt), truth(2), truth(-1), truth(math.MinInt), texted(api.NInt, "1"), {Kind: api.NInt, Text: " ", Num: 1}, {Kind: api.NBool, Text: "true", Num: 1},
		{Kind: api.NInt, Num: 1, Kids: kids{one}}, {Kind: api.NBool, Num: 1, Kids: kids{yes}}, {Kind: api.NInt, Num: 1, Kids: kids{none()}}, {Kind: api.NBool, Kids: kids{{}}},
		{Kind: -1, Num: 1}, {Kind: api.NLiteral + 1, Num: 1}, {Kind: math.MaxInt}, {Kind: math.MinInt},
	}
	for _, s := range []string{"-", "!", "", "+", "--", "- ", "*", "<-", "&"} {
		l = append(l, texted(api.NUnary, s), texted(api.NUnary, s, one, one), texted(api.NUnary, s, yes, yes), texted(api.NUnary, s, one, none()))
		if s != "-" && s != "!" {
			l = append(l, texted(api.NUnary, s, one), texted(api.NUnary, s, yes))
		}
	}
	for _, s := range append(strings.Fields(binaryOperators), "", "!", "=", "&", "|", "^", "<<", ">>", "&^", "+=", " +", "+ ", "and", "<>", "=<") {
		l = append(l, op(s, one, api.Node{}), op(s, none(), one), texted(api.NBinary, s), texted(api.NBinary, s, one), texted(api.NBinary, s, one, one, one), texted(api.NBinary, s, yes, yes, yes), texted(api.NBinary, s, yes), texted(api.NBinary, s, one, one, none()))
		if !slices.Contains(strings.Fields(binaryOperators), s) {
			l = append(l, op(s, one, one), op(s, yes, yes))
		}
	}
	return l
}

// P7.1: nodes that layer 3 does not permit, also as operands.
func TestInvalidNodes(t *testing.T) {
	for _, n := range nearly() {
		checkNone(t, n)
		for _, good := range []api.Node{digits(1), truth(1)} {
			for _, s := range strings.Fields(binaryOperators) {
				checkNone(t, op(s, n, good))
				checkNone(t, op(s, good, n))
				checkNone(t, op(s, n, n))
			}
		}
		checkNone(t, minus(n))
		checkNone(t, not(n))
		checkNone(t, minus(minus(n)))
	}
}

// P7.1: nodes of the other kinds are not constant, whatever they contain.
func TestOtherKinds(t *testing.T) {
	constant := []int{api.NInt, api.NBool, api.NUnary, api.NBinary}
	for kind := -2; kind <= api.NLiteral+2; kind++ {
		if slices.Contains(constant, kind) {
			continue
		}
		for _, s := range []string{"", "-", "!", "+", "==", "&&", "x", "int", "1", "true"} {
			for num := -1; num <= 2; num++ {
				for _, l := range []kids{nil, {digits(1)}, {truth(1)}, {digits(1), digits(2)}, {truth(0), truth(1)}, {block()}, {digits(1), block(), none()}} {
					checkNone(t, api.Node{Kind: kind, Text: s, Num: num, Kids: l})
				}
			}
		}
	}
}

// P7.1: what has no meaning in layer 3 has no influence.
func TestIgnoredFields(t *testing.T) {
	for _, n := range []api.Node{digits(5), truth(1), minus(digits(5)), op("+", digits(2), minus(digits(7))), op("&&", truth(1), not(truth(0)))} {
		want, _ := specifiedValue(n)
		for i := range 50 {
			m := n
			m.At, m.Type, m.Ref, m.Up = i-25, api.Type{Kind: i % 14, Name: "x"}, i%5-1, i%3
			if len(n.Kids) > 0 {
				m.Num = (i - 25) * math.MaxInt
			}
			checkValue(t, m, want)
			checkValue(t, numbered(m), want)
		}
	}
}

// P7.1: random expressions, and random expressions with changed nodes.
func TestRandomValues(t *testing.T) {
	c := &chooser{state: 3}
	counts := map[bool]int{}
	for i := range 6000 {
		n := pick(c, []func(int) api.Node{c.integer, c.boolean, c.expression})(i % 6)
		counts[checkReference(t, n)]++
		for range 3 {
			n = changed(n, c)
			counts[checkReference(t, n)]++
		}
	}
	if counts[true] < 4000 || counts[false] < 4000 {
		t.Error(counts)
	}
}

// P7.1: layer 3 permits nodes; only its files have a limit of levels.
func TestDeepValues(t *testing.T) {
	for _, levels := range []int{1, 2, 45, 46, 47, 49, 50, 51, 52, 100, 1001, 1 << 16} {
		n, left, right, want := digits(1), digits(1), digits(1), 1
		for range levels - 1 {
			n, left, right, want = minus(n), op("+", left, digits(1)), op("-", digits(0), right), -want
		}
		checkValue(t, n, want)
		checkValue(t, left, levels)
		checkValue(t, right, want)
	}
}

// The expressions that are as deep as in a file can be are those that layer 3 permits in files.
func TestDeepestExpression(t *testing.T) {
	n := digits(1)
	for range api.MaxDepth - 5 {
		n = minus(n)
	}
	f := fileOf(bare(api.NPrint, n))
	if !syntax.Valid(f) || syntax.Valid(fileOf(bare(api.NPrint, minus(n)))) {
		t.Fatal("not the limit")
	}
	checkValue(t, n, -1)
	got := File(f).Kids[0].Kids[2].Kids[0].Kids[0]
	if !same(got, minus(digits(1))) {
		t.Error(show(got))
	}
	if n := File(fileOf(bare(api.NPrint, minus(n)))); !same(n, api.Node{}) {
		t.Error(show(n))
	}
}
