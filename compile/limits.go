package compile

import "interleave/api"

const maxCases = 8 // of a select statement, other than default

// fit reports whether a program can have these tables. The layouts of boxed variables are always needed.
func (t *tables) fit() bool {
	for _, l := range t.layouts {
		if len(l) > api.MaxCells {
			return false
		}
	}
	return len(t.functions) <= api.MaxFuncs && len(t.globals) <= api.MaxGlobals && len(t.layouts) <= api.MaxLayouts
}

// selectsFit reports whether no select statement within a node has too many cases.
func selectsFit(n *api.Node) bool {
	if n.Kind == api.NSelect && len(communications(n)) > maxCases {
		return false
	}
	for i := range n.Kids {
		if !selectsFit(&n.Kids[i]) {
			return false
		}
	}
	return true
}

// communications returns the cases of a select statement other than default.
func communications(n *api.Node) []*api.Node {
	var l []*api.Node
	for i := range n.Kids {
		if c := &n.Kids[i]; c.Kids[0].Kind != api.NNone {
			l = append(l, c)
		}
	}
	return l
}
