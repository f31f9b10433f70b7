package capture

import (
	"slices"

	"interleave/api"
	"interleave/syntax"
	"interleave/types"
)

// visit calls do for all nodes within a function in preorder, with their levels. It finds no nodes within anything else.
func visit(fn api.Node, do func(n api.Node, level int)) {
	if !isFunction(fn) {
		return
	}
	var walk func(l []api.Node, level int)
	walk = func(l []api.Node, level int) {
		for _, n := range l {
			do(n, level)
			inner := level
			if n.Kind == api.NLiteral {
				inner++
			}
			walk(n.Kids, inner)
		}
	}
	walk(fn.Kids, 0)
}

// isFunction reports whether n is a function that a file can contain: then its nodes have the children that they need, and there is
// an end to its levels. Layer 3 only answers for files, so that n becomes a part of one. A literal has as few nodes around it there
// as a file can give it.
func isFunction(n api.Node) bool {
	switch n.Kind {
	case api.NFunc:
		return syntax.Valid(node(api.NFile, "", n))
	case api.NLiteral:
		body := node(api.NBlock, "", node(api.NReturn, "", n))
		return isFunction(node(api.NFunc, "f", node(api.NParams, ""), node(api.NNone, ""), body))
	}
	return false
}

func node(kind int, text string, kids ...api.Node) api.Node {
	return api.Node{Kind: kind, Text: text, Kids: kids}
}

// isDeclaration reports whether a node within a function declares a local variable.
func isDeclaration(n api.Node) bool {
	return n.Kind == api.NField || n.Kind == api.NVar || n.Kind == api.NDefine
}

// declared returns the variable that a declaration declares. Whether it is boxed depends on nodes elsewhere.
func declared(n api.Node) api.Local {
	t := n.Kids[0].Type
	if n.Kind != api.NDefine {
		t, _ = types.Of(n.Kids[0])
	}
	return api.Local{Name: n.Text, Type: t, Param: n.Kind == api.NField}
}

func isUse(n api.Node) bool { return n.Kind == api.NName && n.Ref == api.RefLocal }

// denoted returns the variable that a use denotes, as seen from the function in which the use has this level: Up is 0 for the
// variables of this function, and negative for those of the literals within it.
func denoted(use api.Node, level int) api.Capture {
	return api.Capture{Up: use.Up - level, Num: use.Num}
}

// copied returns a tree that shares no memory with n.
func copied(n api.Node) api.Node {
	n.Kids = slices.Clone(n.Kids)
	for i, k := range n.Kids {
		n.Kids[i] = copied(k)
	}
	return n
}
