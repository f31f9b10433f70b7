package check

import (
	"slices"
	"strings"

	"interleave/api"
	"interleave/syntax"
)

// changes returns a file with up to three nodes changed, if it is one. Otherwise it tries again.
func changes(f api.Node, c *chooser) api.Node {
	for {
		n := f
		for range 1 + c.below(3) {
			n = changed(n, c)
		}
		if syntax.Valid(n) {
			return n
		}
	}
}

// changed returns a tree with one node changed. Not every result is a file.
func changed(f api.Node, c *chooser) api.Node {
	at := c.below(syntax.Count(f))
	var change func(n api.Node) api.Node
	change = func(n api.Node) api.Node {
		if at--; at == -1 {
			return altered(n, f, c)
		}
		n.Kids = slices.Clone(n.Kids)
		for i, k := range n.Kids {
			n.Kids[i] = change(k)
		}
		return n
	}
	return change(f)
}

// altered returns a node with another text, with other children, or another node.
func altered(n, f api.Node, c *chooser) api.Node {
	l := slices.Clone(n.Kids)
	switch c.below(6) {
	case 0, 1:
		return renamed(n, c)
	case 2:
		if len(l) > 0 {
			i := c.below(len(l))
			n.Kids = slices.Delete(l, i, i+1)
		}
		return n
	case 3:
		if len(l) > 0 {
			i := c.below(len(l))
			n.Kids = slices.Insert(l, c.below(len(l)+1), l[i])
		}
		return n
	case 4:
		if len(l) > 1 {
			i, k := c.below(len(l)), c.below(len(l))
			l[i], l[k] = l[k], l[i]
			n.Kids = l
		}
		return n
	}
	return other(n, f, c)
}

// renamed returns a node with another text.
func renamed(n api.Node, c *chooser) api.Node {
	names := slices.Concat(localNames, globalNames, fieldNames, strings.Fields("e k T U V nil1 Add Done Load Unlock RLock"))
	switch n.Kind {
	case api.NBinary:
		n.Text = pick(c, strings.Fields("|| && == != < <= > >= + - * / %"))
	case api.NUnary:
		n.Text = pick(c, strings.Fields("- !"))
	case api.NType, api.NPointer:
		return typeNode(pick(c, append([]string{"*V", "*x"}, anyTypes...)))
	case api.NName, api.NDefine, api.NVar, api.NField, api.NMember, api.NNew, api.NFunc, api.NStruct:
		n.Text = pick(c, names)
	case api.NNone:
		return typeNode(pick(c, valueTypes))
	case api.NParams:
		n.Kids = append(slices.Clone(n.Kids), fieldNodes([]entry{{pick(c, localNames), pick(c, valueTypes)}})...)
	default:
		return leaf(c, names)
	}
	return n
}

// leaf returns a small expression.
func leaf(c *chooser, names []string) api.Node {
	switch c.below(6) {
	case 0:
		return api.Node{Kind: api.NInt, Num: 1}
	case 1:
		return api.Node{Kind: api.NBool}
	case 2:
		return bare(api.NNil)
	case 3:
		return bare(api.NCall, name(pick(c, names)))
	case 4:
		return texted(api.NNew, pick(c, []string{"T", "U", "V"}))
	}
	return name(pick(c, names))
}

// other returns a node of the same sort from elsewhere in the file, if there is one among some that are tried, or a leaf.
func other(n, f api.Node, c *chooser) api.Node {
	if n.Kind >= api.NInt && c.below(2) == 0 {
		return leaf(c, localNames)
	}
	all := slices.Collect(syntax.Walk(f))
	for range 20 {
		x := pick(c, all)
		if (x.Kind >= api.NInt) == (n.Kind >= api.NInt) && x.Kind >= api.NType {
			return x
		}
	}
	return n
}
