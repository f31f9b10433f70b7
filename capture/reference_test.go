package capture

import (
	"slices"

	"interleave/api"
	"interleave/types"
)

// place is a node within a function, with the nodes around it, from the outermost one, without the function.
type place struct {
	api.Node
	around []api.Node
}

// within returns the nodes within a function, other than itself, in preorder.
func within(fn api.Node) []place {
	var l []place
	var add func(n api.Node, around []api.Node)
	add = func(n api.Node, around []api.Node) {
		for _, k := range n.Kids {
			l = append(l, place{k, around})
			add(k, slices.Concat(around, []api.Node{k}))
		}
	}
	add(fn, nil)
	return l
}

// level returns the number of literals around a place.
func (x place) level() int {
	count := 0
	for _, n := range x.around {
		if n.Kind == api.NLiteral {
			count++
		}
	}
	return count
}

// isUseOf reports whether a place in a function is a use of the variable number num of the function that is up literals outside of it
// (0 for the function itself).
func (x place) isUseOf(up, num int) bool {
	return x.Kind == api.NName && x.Ref == api.RefLocal && x.Num == num && x.Up == x.level()+up
}

// ownDeclarations returns the nodes that declare the local variables of a function.
func ownDeclarations(fn api.Node) []api.Node {
	var l []api.Node
	for _, x := range within(fn) {
		parameter := x.Kind == api.NField && x.around[len(x.around)-1].Kind == api.NParams
		if x.level() == 0 && (parameter || x.Kind == api.NVar || x.Kind == api.NDefine) {
			l = append(l, x.Node)
		}
	}
	return l
}

// directlyNested returns the literals of a function that are not within another one.
func directlyNested(fn api.Node) []api.Node {
	var l []api.Node
	for _, x := range within(fn) {
		if x.Kind == api.NLiteral && x.level() == 0 {
			l = append(l, x.Node)
		}
	}
	return l
}

// isCapturedBy reports whether a literal captures a variable.
func isCapturedBy(lit api.Node, up, num int) bool {
	return slices.ContainsFunc(within(lit), func(x place) bool { return x.isUseOf(up, num) })
}

// specifiedLocals is Locals by the definitions of the chapter.
func specifiedLocals(fn api.Node) []api.Local {
	var l []api.Local
	for i, n := range ownDeclarations(fn) {
		v := api.Local{Name: n.Text, Type: n.Kids[0].Type, Param: n.Kind == api.NField}
		if n.Kind == api.NField || n.Kind == api.NVar {
			v.Type, _ = types.Of(n.Kids[0])
		}
		for _, lit := range directlyNested(fn) {
			v.Boxed = v.Boxed || isCapturedBy(lit, 1, i)
		}
		l = append(l, v)
	}
	return l
}

// specifiedCaptures is Captures by the definitions of the chapter: for each place, it tries all numbers of literals.
func specifiedCaptures(lit api.Node) []api.Capture {
	var l []api.Capture
	if lit.Kind != api.NLiteral {
		return nil
	}
	for _, x := range within(lit) {
		for up := 1; up <= x.Up; up++ {
			c := api.Capture{Up: up, Num: x.Num}
			if x.isUseOf(up, x.Num) && !slices.Contains(l, c) {
				l = append(l, c)
			}
		}
	}
	return l
}

// byNames finds the variables of functions by their names, in files in which every variable has a name of its own. It does not look at
// annotations.
type byNames struct {
	fn    api.Node
	outer *byNames // the function around a literal
	names []string // of the variables of the function
}

// named returns the functions of a tree, in preorder.
func named(n api.Node, outer *byNames) []*byNames {
	var l []*byNames
	if n.Kind == api.NFunc || n.Kind == api.NLiteral {
		outer = &byNames{fn: n, outer: outer}
		for _, d := range ownDeclarations(n) {
			outer.names = append(outer.names, d.Text)
		}
		l = append(l, outer)
	}
	for _, k := range n.Kids {
		l = append(l, named(k, outer)...)
	}
	return l
}

// captures returns the variables of functions outside of a literal that occur in it.
func (f *byNames) captures() []api.Capture {
	var l []api.Capture
	for _, x := range within(f.fn) {
		up := 1
		for o := f.outer; o != nil; o = o.outer {
			c := api.Capture{Up: up, Num: slices.Index(o.names, x.Text)}
			if x.Kind == api.NName && c.Num >= 0 && !slices.Contains(l, c) {
				l = append(l, c)
			}
			up++
		}
	}
	return l
}

// boxed returns the names of the variables of a function that occur in literals within it.
func (f *byNames) boxed() []string {
	occurs := map[string]bool{}
	for _, x := range within(f.fn) {
		if x.Kind == api.NName && x.level() > 0 {
			occurs[x.Text] = true
		}
	}
	return slices.DeleteFunc(slices.Clone(f.names), func(name string) bool { return !occurs[name] })
}
