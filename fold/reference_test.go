package fold

import (
	"math/big"
	"slices"

	"interleave/api"
	"interleave/syntax"
)

// fact is what the chapter says of a constant expression: its value, and whether it is a boolean constant.
type fact struct {
	value   *big.Int
	boolean bool
}

// permits reports whether layer 3 permits a node as an expression, whatever its children are, as long as they are expressions.
func permits(n api.Node) bool {
	n.Kids = slices.Repeat(kids{bare(api.NNil)}, len(n.Kids))
	return syntax.Valid(fileOf(bare(api.NPrint, n)))
}

// factOf returns what an expression is, and nil if it is not constant. It uses integers without limits.
func factOf(n api.Node) *fact {
	constant := n.Kind == api.NInt || n.Kind == api.NBool || n.Kind == api.NUnary || n.Kind == api.NBinary
	if !constant || !permits(n) {
		return nil
	}
	var l []*fact
	for _, k := range n.Kids {
		x := factOf(k)
		if x == nil || len(l) > 0 && x.boolean != l[0].boolean {
			return nil
		}
		l = append(l, x)
	}
	switch {
	case len(l) == 0:
		return &fact{big.NewInt(int64(n.Num)), n.Kind == api.NBool}
	case l[0].boolean:
		return booleanFact(n, l)
	}
	return integerFact(n, l)
}

// booleanFact computes with sums: of two numbers 0 or 1, both are 1 if their sum is 2.
func booleanFact(n api.Node, l []*fact) *fact {
	sum := 0
	for _, x := range l {
		sum += int(x.value.Int64())
	}
	holds := map[string]bool{"!": sum == 0, "&&": sum == 2, "||": sum > 0, "==": sum != 1, "!=": sum == 1}
	if n.Kind == api.NUnary && n.Text != "!" {
		return nil
	}
	if b, found := holds[n.Text]; found {
		return truthFact(b)
	}
	return nil
}

func truthFact(b bool) *fact {
	if b {
		return &fact{big.NewInt(1), true}
	}
	return &fact{big.NewInt(0), true}
}

func integerFact(n api.Node, l []*fact) *fact {
	a, zero, z := l[0].value, new(big.Int), new(big.Int)
	if n.Kind == api.NUnary {
		if n.Text != "-" {
			return nil
		}
		return &fact{value: wrapped(z.Neg(a))}
	}
	b := l[1].value
	c := a.Cmp(b)
	if holds, found := map[string]bool{"==": c == 0, "!=": c != 0, "<": c < 0, "<=": c <= 0, ">": c > 0, ">=": c >= 0}[n.Text]; found {
		return truthFact(holds)
	}
	switch n.Text {
	case "+":
		z.Add(a, b)
	case "-":
		z.Sub(a, b)
	case "*":
		z.Mul(a, b)
	case "/", "%":
		if b.Cmp(zero) == 0 {
			return nil
		}
		quotient, rest := new(big.Int).QuoRem(a, b, z)
		z = map[string]*big.Int{"/": quotient, "%": rest}[n.Text]
	default:
		return nil
	}
	return &fact{value: wrapped(z)}
}

// wrapped returns the number from -2^63 to 2^63-1 that differs from z by a multiple of 2^64.
func wrapped(z *big.Int) *big.Int {
	half := new(big.Int).Lsh(big.NewInt(1), 63)
	whole := new(big.Int).Lsh(half, 1)
	return z.Sub(z.Mod(z.Add(z, half), whole), half)
}

// specifiedValue is Value by the reference.
func specifiedValue(n api.Node) (int, bool) {
	if x := factOf(n); x != nil {
		return int(x.value.Int64()), true
	}
	return 0, false
}

// specifiedFile is File by the reference.
func specifiedFile(f api.Node) api.Node {
	if !syntax.Valid(f) {
		return api.Node{}
	}
	return specifiedFold(f)
}

// specifiedFold folds from the root to the leaves, as the chapter says it.
func specifiedFold(n api.Node) api.Node {
	if isExpression(n) {
		if x := factOf(n); x != nil && x.value.Cmp(big.NewInt(-1<<63)) != 0 {
			return replacement(x, n.At)
		}
	}
	if n.Kind == api.NIf {
		if x := factOf(n.Kids[0]); x != nil {
			switch {
			case x.value.Cmp(big.NewInt(1)) == 0:
				return specifiedFold(n.Kids[1])
			case n.Kids[2].Kind != api.NNone:
				return specifiedFold(n.Kids[2])
			}
			return api.Node{Kind: api.NBlock, At: n.At}
		}
	}
	m := api.Node{Kind: n.Kind, Text: n.Text, At: n.At}
	for _, k := range n.Kids {
		m.Kids = append(m.Kids, specifiedFold(k))
	}
	return m
}

func replacement(x *fact, at int) api.Node {
	v := int(x.value.Int64())
	switch {
	case x.boolean:
		return api.Node{Kind: api.NBool, Num: v, At: at}
	case v >= 0:
		return api.Node{Kind: api.NInt, Num: v, At: at}
	}
	return api.Node{Kind: api.NUnary, Text: "-", At: at, Kids: kids{{Kind: api.NInt, Num: -v, At: at}}}
}

// isExpression reports whether a node of a file is an expression.
func isExpression(n api.Node) bool { return n.Kind >= api.NInt && n.Kind <= api.NLiteral }
