package check

import (
	"slices"

	"interleave/api"
	"interleave/types"
)

// judge applies all rules in the order of the chapter.
func (j *judge) judge() {
	for i, d := range j.file.kids {
		j.rule("declarations", !slices.ContainsFunc(j.file.kids[:i], func(x *item) bool { return x.Text == d.Text }), d, api.ErrDuplicate)
	}
	for _, d := range j.file.kids {
		switch d.Kind {
		case api.NStruct:
			for i, f := range d.kids {
				j.rule("NStruct name", !slices.ContainsFunc(d.kids[:i], func(x *item) bool { return x.Text == f.Text }), f, api.ErrDuplicate)
				j.pointer("NStruct type", f.kids[0])
			}
		case api.NVar:
			j.pointer("NVar", d.kids[0])
		default:
			j.ofFunction(d)
		}
	}
	main := j.declared("main", api.NFunc)
	j.rule("main", main != nil, &item{}, api.ErrName)
	if main != nil {
		j.rule("main type", len(main.kids[0].kids) == 0 && main.kids[1].Kind == api.NNone, main, api.ErrType)
	}
}

func (j *judge) pointer(rule string, x *item) {
	j.rule(rule+" pointer", x.Kind != api.NPointer || j.declared(x.Text, api.NStruct) != nil, x, api.ErrName)
}

// localType is "the type of a local variable, parameter or result".
func (j *judge) localType(rule string, x *item) {
	j.pointer(rule, x)
	j.rule(rule+" type", types.Value(of(x)), x, api.ErrType)
}

func (j *judge) ofFunction(f *item) {
	params, result, body := f.kids[0], f.kids[1], f.kids[2]
	for _, p := range params.kids {
		j.rule("NFunc parameter", !j.again(p), p, api.ErrDuplicate)
		j.localType("NFunc parameter", p.kids[0])
	}
	if result.Kind != api.NNone {
		j.localType("NFunc result", result)
	}
	j.statements(body.kids)
	j.rule("NFunc terminates", result.Kind == api.NNone || ends(body), f, api.ErrType)
}

// ends reports whether a block terminates.
func ends(b *item) bool {
	if len(b.kids) == 0 {
		return false
	}
	var end func(x *item) bool
	end = func(x *item) bool {
		switch {
		case x.Kind == api.NReturn, x.Kind == api.NFor && x.kids[0].Kind == api.NNone:
			return true
		case x.Kind == api.NBlock:
			return ends(x)
		}
		return x.Kind == api.NIf && ends(x.kids[1]) && end(x.kids[2])
	}
	return end(b.kids[len(b.kids)-1])
}

func (j *judge) statements(l []*item) {
	for _, x := range l {
		j.statement(x)
	}
}

// stored is "the expression; it is assignable to the type".
func (j *judge) stored(rule string, x *item, to api.Type) {
	j.expression(x)
	j.rule(rule+" assignable", types.Assignable(to, j.typeOf(x)), x, api.ErrType)
}

// kinds is "the expression; it is of one of these kinds", with the error at a node.
func (j *judge) kinds(rule string, x, at *item, kinds ...int) {
	j.expression(x)
	j.rule(rule+" kind", slices.Contains(kinds, j.typeOf(x).Kind), at, api.ErrType)
}

func (j *judge) statement(x *item) {
	k := x.kids
	switch x.Kind {
	case api.NVar:
		j.localType("local NVar", k[0])
		if k[1].Kind != api.NNone {
			j.stored("local NVar", k[1], of(k[0]))
		}
		j.rule("local NVar name", !j.again(x), x, api.ErrDuplicate)
	case api.NDefine:
		j.expression(k[0])
		j.rule("NDefine value", types.Value(j.typeOf(k[0])), k[0], api.ErrType)
		j.rule("NDefine name", !j.again(x), x, api.ErrDuplicate)
	case api.NAssign:
		j.expression(k[0])
		j.rule("NAssign target", k[0].is(api.NMember, api.NIndex) || k[0].Kind == api.NName && j.function(k[0]) == nil, k[0], api.ErrType)
		j.stored("NAssign", k[1], j.typeOf(k[0]))
	case api.NExpr, api.NGo, api.NDefer:
		j.expression(k[0])
	case api.NSend:
		j.kinds("NSend channel", k[0], k[0], api.TChan)
		j.kinds("NSend value", k[1], k[1], api.TInt)
	case api.NClose:
		j.kinds("NClose", k[0], k[0], api.TChan)
	case api.NPrint:
		j.kinds("NPrint", k[0], k[0], api.TInt, api.TBool)
	case api.NIf, api.NFor:
		if k[0].Kind != api.NNone {
			j.kinds("condition", k[0], k[0], api.TBool)
		}
		j.statements(k[1:])
	case api.NReturn:
		j.returned(x)
	case api.NSelect:
		for i, c := range k {
			isDefault := func(x *item) bool { return x.kids[0].Kind == api.NNone }
			j.rule("NSelect default", !isDefault(c) || !slices.ContainsFunc(k[:i], isDefault), c, api.ErrDuplicate)
			j.statement(c.kids[0])
			j.statements(c.kids[1].kids)
		}
	case api.NBlock:
		j.statements(k)
	}
}

func (j *judge) returned(x *item) {
	result := api.Type{}
	if f := x.around(api.NFunc, api.NLiteral); f.Kind == api.NFunc {
		result = of(f.kids[1])
	}
	j.rule("NReturn", (len(x.kids) == 1) == (result.Kind != api.TNone), x, api.ErrType)
	for _, k := range x.kids {
		j.stored("NReturn", k, result)
	}
}

func (j *judge) expression(x *item) {
	k := x.kids
	switch x.Kind {
	case api.NLiteral:
		j.statements(k[0].kids)
	case api.NName:
		j.rule("NName", j.denoted(x) != nil, x, api.ErrName)
		j.rule("NName type", types.Value(j.typeOf(x)), x, api.ErrType)
	case api.NMember:
		j.kinds("NMember", k[0], x, api.TPointer)
		j.rule("NMember field", j.field(x) != broken, x, api.ErrName)
		j.rule("NMember type", types.Value(j.field(x)), x, api.ErrType)
	case api.NIndex:
		j.kinds("NIndex slice", k[0], k[0], api.TSlice)
		j.kinds("NIndex index", k[1], k[1], api.TInt)
	case api.NUnary:
		j.kinds("NUnary "+x.Text, k[0], x, map[string]int{"-": api.TInt, "!": api.TBool}[x.Text])
	case api.NBinary:
		j.expression(k[0])
		j.expression(k[1])
		j.rule("NBinary", j.typeOf(x) != broken, x, api.ErrType)
	case api.NReceive:
		j.kinds("NReceive", k[0], x, api.TChan)
	case api.NLen:
		j.kinds("NLen", k[0], k[0], api.TSlice)
	case api.NSlice:
		j.kinds("NSlice", k[0], k[0], api.TInt)
	case api.NChan:
		j.kinds("NChan", k[0], k[0], api.TInt)
	case api.NNew:
		j.rule("NNew", j.declared(x.Text, api.NStruct) != nil, x, api.ErrName)
	case api.NCall:
		j.callee(k[0])
		params, _ := j.called(k[0])
		j.rule("NCall number", len(params) == len(k)-1, x, api.ErrType)
		for i := range min(len(params), len(k)-1) {
			j.stored("NCall", k[i+1], params[i])
		}
	}
}

func (j *judge) callee(x *item) {
	if j.method(x) {
		if receiver := x.kids[0]; receiver.Kind == api.NMember {
			j.expression(receiver.kids[0])
		}
		_, _, ok := types.Method(j.typeOf(x.kids[0]), x.Text)
		j.rule("NCall method", ok, x, api.ErrName)
		return
	}
	if j.function(x) == nil {
		j.kinds("NCall callee", x, x, api.TFunc)
	}
}
