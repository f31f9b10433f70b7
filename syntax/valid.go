package syntax

import (
	"slices"

	"interleave/api"
	"interleave/scan"
)

// permitted reports whether all nodes of a tree are permitted and no path from its root has more than depth nodes.
func permitted(n api.Node, depth int) bool {
	if depth == 0 || !textFits(n) || !numFits(n) || !childrenFit(n) {
		return false
	}
	for _, k := range n.Kids {
		if !permitted(k, depth-1) {
			return false
		}
	}
	return true
}

// textFits reports whether n has a Text that its kind permits.
func textFits(n api.Node) bool {
	switch n.Kind {
	case api.NStruct, api.NField, api.NFunc, api.NVar, api.NDefine, api.NMember, api.NName, api.NNew, api.NPointer:
		return isName(n.Text)
	case api.NUnary:
		return n.Text == "-" || n.Text == "!"
	case api.NBinary:
		return isBinary(n.Text)
	case api.NType:
		return isTypeText(n.Text)
	}
	return n.Text == ""
}

// isName asks layer 2, which also knows the keywords and the limit. The token must be all of s, because blanks and comments
// leave no tokens.
func isName(s string) bool {
	l, _, _ := scan.Scan(s)
	return len(l) == 1 && l[0].Kind == api.TokName && l[0].Text == s
}

func isBinary(s string) bool {
	switch s {
	case "||", "&&", "==", "!=", "<", "<=", ">", ">=", "+", "-", "*", "/", "%":
		return true
	}
	return false
}

func isTypeText(s string) bool {
	switch s {
	case "int", "bool", "[]int", "chan", "func", "mutex", "rwmutex", "group", "once", "atomic":
		return true
	}
	return false
}

// numFits reports whether n has a Num that its kind permits.
func numFits(n api.Node) bool {
	switch n.Kind {
	case api.NInt:
		return n.Num >= 0
	case api.NBool:
		return n.Num == 0 || n.Num == 1
	}
	return true
}

// childrenFit reports whether n has the children that its kind permits. It does not look at their own children, except where
// these decide whether a child may stand at its place.
func childrenFit(n api.Node) bool {
	return slices.EqualFunc(n.Kids, places(n), func(k api.Node, p place) bool { return p(k) })
}

// place is a set of nodes: those that may stand at one place among the children of a node.
type place func(api.Node) bool

// places returns the places for the children of n. Where a kind permits several numbers of children, there are as many places
// as n has children, if it permits this number. No place takes a node of an unknown kind, so that these need no case.
func places(n api.Node) []place {
	count, block := len(n.Kids), oneOf(api.NBlock)
	switch n.Kind {
	case api.NFile:
		return repeat(isDeclaration, count)
	case api.NStruct, api.NParams:
		return repeat(oneOf(api.NField), count)
	case api.NField:
		return []place{isType}
	case api.NFunc:
		return []place{oneOf(api.NParams), optional(isType), block}
	case api.NVar:
		return []place{isType, optional(isExpression)}
	case api.NBlock:
		return repeat(isStatement, count)
	case api.NExpr:
		return []place{oneOf(api.NCall, api.NReceive)}
	case api.NGo, api.NDefer:
		return []place{oneOf(api.NCall)}
	case api.NIf:
		return []place{isExpression, block, optional(oneOf(api.NBlock, api.NIf))}
	case api.NFor:
		return []place{optional(isExpression), block}
	case api.NReturn:
		return repeat(isExpression, min(count, 1))
	case api.NSelect:
		return repeat(oneOf(api.NCase), count)
	case api.NCase:
		return []place{optional(isCommunication), block}
	case api.NDefine, api.NClose, api.NPrint, api.NMember, api.NUnary, api.NReceive, api.NSlice, api.NChan, api.NLen:
		return repeat(isExpression, 1)
	case api.NAssign, api.NSend, api.NIndex, api.NBinary:
		return repeat(isExpression, 2)
	case api.NCall:
		return repeat(isExpression, max(count, 1))
	case api.NLiteral:
		return []place{block}
	}
	return nil
}

func repeat(p place, count int) []place { return slices.Repeat([]place{p}, count) }

func oneOf(kinds ...int) place {
	return func(n api.Node) bool { return slices.Contains(kinds, n.Kind) }
}

// optional adds NNone to a place.
func optional(p place) place {
	return func(n api.Node) bool { return n.Kind == api.NNone || p(n) }
}

// isDeclaration excludes variables with an initial value, which are statements only.
func isDeclaration(n api.Node) bool {
	switch n.Kind {
	case api.NStruct, api.NFunc:
		return true
	case api.NVar:
		return lastKind(n) == api.NNone
	}
	return false
}

func isType(n api.Node) bool { return n.Kind == api.NType || n.Kind == api.NPointer }

func isStatement(n api.Node) bool {
	switch n.Kind {
	case api.NVar, api.NBlock, api.NDefine, api.NAssign, api.NExpr, api.NGo, api.NDefer, api.NSend, api.NClose, api.NPrint,
		api.NIf, api.NFor, api.NReturn, api.NSelect:
		return true
	}
	return false
}

func isExpression(n api.Node) bool {
	switch n.Kind {
	case api.NMember, api.NIndex, api.NCall, api.NUnary, api.NBinary, api.NReceive, api.NSlice, api.NChan, api.NLen,
		api.NName, api.NNew, api.NInt, api.NBool, api.NNil, api.NLiteral:
		return true
	}
	return false
}

// isCommunication reports whether n is a statement for which a select statement can wait.
func isCommunication(n api.Node) bool {
	switch n.Kind {
	case api.NSend:
		return true
	case api.NExpr, api.NAssign, api.NDefine:
		return lastKind(n) == api.NReceive
	}
	return false
}

// lastKind returns the kind of the last child of n, and 0, which is no kind, if n has no children.
func lastKind(n api.Node) int {
	if len(n.Kids) == 0 {
		return 0
	}
	return n.Kids[len(n.Kids)-1].Kind
}
