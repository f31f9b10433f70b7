package fold

import "interleave/api"

// constant is the value of a constant expression. Its kind is NInt or NBool; the kind 0 stands for expressions that are not constant.
type constant struct{ kind, num int }

// maxLevels is the number of levels up to which the document promises results. It ends the search in nodes that contain themselves.
const maxLevels = 1 << 16

// evaluate returns the value of an expression. It checks itself what layer 3 permits: layer 3 only answers for files, and these
// have fewer levels than an expression can have.
func evaluate(n api.Node, levels int) constant {
	switch {
	case levels == 0:
		return constant{}
	case isLiteral(n):
		return constant{n.Kind, n.Num}
	case n.Kind == api.NUnary && len(n.Kids) == 1:
		return unary(n.Text, evaluate(n.Kids[0], levels-1))
	case n.Kind == api.NBinary && len(n.Kids) == 2:
		a := evaluate(n.Kids[0], levels-1)
		if a.kind == 0 {
			return constant{}
		}
		return binary(n.Text, a, evaluate(n.Kids[1], levels-1))
	}
	return constant{}
}

// isLiteral reports whether n is an NInt or NBool that layer 3 permits.
func isLiteral(n api.Node) bool {
	if n.Text != "" || len(n.Kids) > 0 {
		return false
	}
	return n.Kind == api.NInt && n.Num >= 0 || n.Kind == api.NBool && (n.Num == 0 || n.Num == 1)
}

func integer(num int) constant { return constant{api.NInt, num} }

func boolean(b bool) constant {
	if b {
		return constant{api.NBool, 1}
	}
	return constant{api.NBool, 0}
}

func unary(operator string, a constant) constant {
	switch {
	case operator == "-" && a.kind == api.NInt:
		return integer(-a.num)
	case operator == "!" && a.kind == api.NBool:
		return boolean(a.num == 0)
	}
	return constant{}
}

func binary(operator string, a, b constant) constant {
	switch {
	case a.kind != b.kind:
		return constant{}
	case operator == "==":
		return boolean(a.num == b.num)
	case operator == "!=":
		return boolean(a.num != b.num)
	case a.kind == api.NInt:
		return ofIntegers(operator, a.num, b.num)
	}
	return ofBooleans(operator, a.num == 1, b.num == 1)
}

// ofIntegers leaves the rules of the chapter to Go, which has the same ones, also for the least integer divided by -1.
func ofIntegers(operator string, a, b int) constant {
	switch operator {
	case "+":
		return integer(a + b)
	case "-":
		return integer(a - b)
	case "*":
		return integer(a * b)
	case "/":
		if b != 0 {
			return integer(a / b)
		}
	case "%":
		if b != 0 {
			return integer(a % b)
		}
	case "<":
		return boolean(a < b)
	case "<=":
		return boolean(a <= b)
	case ">":
		return boolean(a > b)
	case ">=":
		return boolean(a >= b)
	}
	return constant{}
}

func ofBooleans(operator string, a, b bool) constant {
	switch operator {
	case "&&":
		return boolean(a && b)
	case "||":
		return boolean(a || b)
	}
	return constant{}
}
