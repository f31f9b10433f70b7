package check

import (
	"slices"

	"interleave/api"
	"interleave/syntax"
	"interleave/types"
)

// item is a node that knows its place in its tree. First and last are the numbers of its own node and of the last one within it, in
// preorder.
type item struct {
	api.Node
	parent      *item
	kids        []*item
	index       int
	first, last int
	scope       *item     // of the declaration of a local variable
	kind        *api.Type // the type of an expression, once it is known
}

// judge is a second checker, written from the definitions of the chapter: it looks for declarations in the whole tree, finds types
// when they are needed, and goes on behind violated rules.
type judge struct {
	file         *item
	all          []*item
	declarations []*item // of local variables
	problems     []problem
}

// problem is a violated rule.
type problem struct {
	rule string
	at   int
	e    api.Errno
}

// broken is the type of expressions that violate a rule. It is not valid.
var broken = api.Type{Kind: -1}

func newJudge(f api.Node) *judge {
	j := &judge{}
	j.file = j.item(f, nil, 0)
	return j
}

func (j *judge) item(n api.Node, parent *item, index int) *item {
	x := &item{Node: n, parent: parent, index: index, first: len(j.all)}
	j.all = append(j.all, x)
	if isLocal(x) {
		x.scope = scope(x)
		j.declarations = append(j.declarations, x)
	}
	for i, k := range n.Kids {
		x.kids = append(x.kids, j.item(k, x, i))
	}
	x.last = len(j.all) - 1
	return x
}

func (x *item) is(kinds ...int) bool { return slices.Contains(kinds, x.Kind) }

// around returns the innermost node of these kinds that contains x.
func (x *item) around(kinds ...int) *item {
	p := x.parent
	for p != nil && !p.is(kinds...) {
		p = p.parent
	}
	return p
}

// literals returns how many function literals contain x.
func (x *item) literals() int {
	count := 0
	for p := x.around(api.NLiteral); p != nil; p = p.around(api.NLiteral) {
		count++
	}
	return count
}

// isLocal reports whether x declares a local variable.
func isLocal(x *item) bool {
	return x.Kind == api.NDefine || x.Kind == api.NVar && x.parent.Kind != api.NFile || x.Kind == api.NField && x.parent.Kind == api.NParams
}

// scope returns the node that stands for the scope of a declaration: an NFunc, an NCase, or an NBlock that belongs to neither.
func scope(x *item) *item {
	p := x.around(api.NBlock, api.NFunc, api.NCase)
	if p.Kind == api.NBlock && p.parent.is(api.NFunc, api.NCase) {
		return p.parent
	}
	return p
}

func (x *item) contains(y *item) bool { return x.first <= y.first && y.first <= x.last }

// declared returns the node that declares a name in the file, if it is of one of these kinds.
func (j *judge) declared(name string, kinds ...int) *item {
	for _, x := range j.file.kids {
		if x.Text == name && x.is(kinds...) {
			return x
		}
	}
	return nil
}

// denoted returns the declaration of what a name denotes, or nil.
func (j *judge) denoted(x *item) *item {
	var found *item
	for _, d := range j.declarations {
		if d.Text != x.Text || d.last >= x.first || !d.scope.contains(x) {
			continue
		}
		if found == nil || found.scope != d.scope && found.scope.contains(d.scope) {
			found = d
		}
	}
	if found == nil {
		found = j.declared(x.Text, api.NVar, api.NFunc)
	}
	return found
}

// again reports whether a local variable with the same name is declared in the same scope before x.
func (j *judge) again(x *item) bool {
	return slices.ContainsFunc(j.declarations, func(d *item) bool { return d.first < x.first && d.Text == x.Text && d.scope == x.scope })
}

// number returns the number of a declaration.
func (j *judge) number(x *item) int {
	l := j.file.kids
	if isLocal(x) {
		l = j.declarations
	}
	count := 0
	for _, d := range l {
		if d.first < x.first && d.around(api.NFunc, api.NLiteral) == x.around(api.NFunc, api.NLiteral) && (isLocal(x) || d.Kind == x.Kind) {
			count++
		}
	}
	return count
}

func (j *judge) rule(rule string, holds bool, x *item, e api.Errno) {
	if !holds {
		j.problems = append(j.problems, problem{rule, x.At, e})
	}
}

func of(x *item) api.Type {
	t, _ := types.Of(x.Node)
	return t
}

// declaredType returns the type of the variable that a node declares.
func (j *judge) declaredType(d *item) api.Type {
	if d.Kind == api.NDefine {
		return j.typeOf(d.kids[0])
	}
	return of(d.kids[0])
}

// signatureOf returns the types of the parameters and of the result of an NFunc.
func signatureOf(f *item) ([]api.Type, api.Type) {
	var l []api.Type
	for _, p := range f.kids[0].kids {
		l = append(l, of(p.kids[0]))
	}
	return l, of(f.kids[1])
}

// typeOf returns the type of an expression.
func (j *judge) typeOf(x *item) api.Type {
	if x.kind == nil {
		t := j.found(x)
		x.kind = &t
	}
	return *x.kind
}

func (j *judge) found(x *item) api.Type {
	switch x.Kind {
	case api.NInt, api.NIndex, api.NReceive, api.NLen:
		return api.Type{Kind: api.TInt}
	case api.NBool:
		return api.Type{Kind: api.TBool}
	case api.NNil:
		return api.Type{Kind: api.TNil}
	case api.NLiteral:
		return api.Type{Kind: api.TFunc}
	case api.NSlice:
		return api.Type{Kind: api.TSlice}
	case api.NChan:
		return api.Type{Kind: api.TChan}
	case api.NNew:
		return api.Type{Kind: api.TPointer, Name: x.Text}
	case api.NUnary:
		return map[string]api.Type{"-": {Kind: api.TInt}, "!": {Kind: api.TBool}}[x.Text]
	case api.NBinary:
		t, ok := types.Binary(x.Text, j.typeOf(x.kids[0]), j.typeOf(x.kids[1]))
		if !ok {
			return broken
		}
		return t
	case api.NCall:
		_, result := j.called(x.kids[0])
		return result
	case api.NMember:
		return j.field(x)
	}
	d := j.denoted(x)
	switch {
	case d == nil:
		return broken
	case d.Kind != api.NFunc:
		return j.declaredType(d)
	case len(d.kids[0].kids) > 0 || d.kids[1].Kind != api.NNone:
		return broken
	}
	return api.Type{Kind: api.TFunc}
}

// field returns the type of the field that an NMember denotes, also that of a synchronization variable.
func (j *judge) field(x *item) api.Type {
	t := j.typeOf(x.kids[0])
	if s := j.declared(t.Name, api.NStruct); t.Kind == api.TPointer && s != nil {
		for _, f := range s.kids {
			if f.Text == x.Text {
				return of(f.kids[0])
			}
		}
	}
	return broken
}

// variable reports whether x denotes a synchronization variable.
func (j *judge) variable(x *item) bool {
	return x.is(api.NName, api.NMember) && slices.Contains([]int{api.TMutex, api.TRW, api.TGroup, api.TOnce, api.TAtomic}, j.typeOf(x).Kind)
}

// method reports whether a callee is a method of a synchronization variable.
func (j *judge) method(x *item) bool { return x.Kind == api.NMember && j.variable(x.kids[0]) }

// function returns the function whose name a callee is, or nil.
func (j *judge) function(x *item) *item {
	if x.Kind == api.NName {
		if d := j.denoted(x); d != nil && d.Kind == api.NFunc {
			return d
		}
	}
	return nil
}

// called returns the types of the parameters and of the result of a callee.
func (j *judge) called(x *item) ([]api.Type, api.Type) {
	if j.method(x) {
		params, result, _ := types.Method(j.typeOf(x.kids[0]), x.Text)
		return params, result
	}
	if f := j.function(x); f != nil {
		return signatureOf(f)
	}
	return nil, api.Type{}
}

// annotated returns the tree with the annotations that the chapter specifies for an accepted file.
func (j *judge) annotated(x *item) api.Node {
	n := syntax.Strip(x.Node)
	n.At = x.At
	switch d := j.denoted(x); {
	case isLocal(x):
		n.Ref, n.Num = api.RefLocal, j.number(x)
	case x.Kind != api.NName:
	case isLocal(d):
		n.Ref, n.Num, n.Up = api.RefLocal, j.number(d), x.literals()-d.literals()
	case d.Kind == api.NVar:
		n.Ref, n.Num = api.RefGlobal, j.number(d)
	default:
		n.Ref, n.Num = api.RefFunc, j.number(d)
	}
	if t := j.typeOf(x); x.Kind >= api.NInt && t != broken && !j.method(x) {
		n.Type = t
	}
	for i, k := range x.kids {
		n.Kids[i] = j.annotated(k)
	}
	return n
}

// specified returns what the chapter specifies for a file, and the rule that is violated.
func specified(f api.Node) (n api.Node, at int, e api.Errno, rule string) {
	if !syntax.Valid(f) {
		return api.Node{}, 0, api.ErrArg, "file"
	}
	j := newJudge(f)
	j.judge()
	if len(j.problems) > 0 {
		first := j.problems[0]
		return api.Node{}, first.at, first.e, first.rule
	}
	return j.annotated(j.file), 0, api.OK, ""
}
