package check

import (
	"slices"

	"interleave/api"
	"interleave/types"
)

// expression checks an expression, and returns its type.
func (c *checker) expression(n *api.Node) api.Type {
	c.denote(n)
	requireValue(n)
	return n.Type
}

// denote checks an expression, but accepts it, too, if it is a name or a member that denotes no value: a synchronization variable, or
// a function that has no type.
func (c *checker) denote(n *api.Node) { n.Type = c.typeOf(n) }

// requireValue requires of a name or a member that it denotes a value. Other expressions need not have one.
func requireValue(n *api.Node) {
	require(!isNamed(n) || types.Value(n.Type), n, api.ErrType)
}

// isNamed reports whether an expression denotes a variable or a function by its name.
func isNamed(n *api.Node) bool { return n.Kind == api.NName || n.Kind == api.NMember }

// operand checks an expression that has a type of this kind.
func (c *checker) operand(n *api.Node, kind int) {
	t := c.expression(n)
	require(t.Kind == kind, n, api.ErrType)
}

// typeOf checks the parts of an expression, and returns its type.
func (c *checker) typeOf(n *api.Node) api.Type {
	switch n.Kind {
	case api.NInt:
		return plain(api.TInt)
	case api.NBool:
		return plain(api.TBool)
	case api.NName:
		return c.name(n)
	case api.NMember:
		c.expression(&n.Kids[0])
		return c.field(n)
	case api.NIndex:
		c.operand(&n.Kids[0], api.TSlice)
		c.operand(&n.Kids[1], api.TInt)
		return plain(api.TInt)
	case api.NUnary:
		return c.unary(n)
	case api.NBinary:
		return c.binary(n)
	case api.NReceive:
		t := c.expression(&n.Kids[0])
		require(t.Kind == api.TChan, n, api.ErrType)
		return plain(api.TInt)
	case api.NLen:
		c.operand(&n.Kids[0], api.TSlice)
		return plain(api.TInt)
	case api.NSlice:
		c.operand(&n.Kids[0], api.TInt)
		return plain(api.TSlice)
	case api.NChan:
		c.operand(&n.Kids[0], api.TInt)
		return plain(api.TChan)
	case api.NNew:
		c.structure(n)
		return api.Type{Kind: api.TPointer, Name: n.Text}
	case api.NLiteral:
		return c.literal(n)
	case api.NCall:
		return c.call(n)
	}
	return plain(api.TNil) // the type of the remaining kind, NNil
}

// name finds out what a name denotes.
func (c *checker) name(n *api.Node) api.Type {
	if v, found := c.local(n.Text); found {
		n.Ref, n.Num, n.Up = api.RefLocal, v.num, c.inner.level-v.level
		return v.t
	}
	g, found := c.globals[n.Text]
	require(found, n, api.ErrName)
	n.Ref, n.Num = g.ref, g.num
	return g.t
}

// field returns the type of the field of an NMember whose expression is checked.
func (c *checker) field(n *api.Node) api.Type {
	pointer := n.Kids[0].Type
	require(pointer.Kind == api.TPointer, n, api.ErrType)
	l := c.structs[pointer.Name]
	i := slices.IndexFunc(l, func(f api.Field) bool { return f.Name == n.Text })
	require(i >= 0, n, api.ErrName)
	return l[i].Type
}

func (c *checker) unary(n *api.Node) api.Type {
	kind := api.TBool
	if n.Text == "-" {
		kind = api.TInt
	}
	t := c.expression(&n.Kids[0])
	require(t.Kind == kind, n, api.ErrType)
	return t
}

func (c *checker) binary(n *api.Node) api.Type {
	left, right := c.expression(&n.Kids[0]), c.expression(&n.Kids[1])
	t, permitted := types.Binary(n.Text, left, right)
	require(permitted, n, api.ErrType)
	return t
}

// literal checks a function literal within the function that surrounds it.
func (c *checker) literal(n *api.Node) api.Type {
	outer := c.inner
	c.inner = function{level: outer.level + 1}
	c.block(&n.Kids[0])
	c.inner = outer
	return plain(api.TFunc)
}

// call checks a call, and returns the type of its result.
func (c *checker) call(n *api.Node) api.Type {
	s := c.callee(&n.Kids[0])
	arguments := n.Kids[1:]
	require(len(arguments) == len(s.params), n, api.ErrType)
	for i := range arguments {
		c.value(&arguments[i], s.params[i])
	}
	return s.result
}

// callee checks what is called, and returns what its calls need and give.
func (c *checker) callee(n *api.Node) signature {
	if n.Kind == api.NMember {
		return c.selected(n)
	}
	c.denote(n)
	if n.Ref == api.RefFunc {
		return c.globals[n.Text].call
	}
	return closure(n)
}

// selected checks an NMember that is called: a method, or a field.
func (c *checker) selected(n *api.Node) signature {
	x := &n.Kids[0]
	c.denote(x)
	if isNamed(x) && isSynchronization(x.Type) {
		params, result, found := types.Method(x.Type, n.Text)
		require(found, n, api.ErrName)
		return signature{params, result}
	}
	requireValue(x)
	n.Type = c.field(n)
	return closure(n)
}

func closure(n *api.Node) signature {
	require(n.Type.Kind == api.TFunc, n, api.ErrType)
	return signature{}
}

func isSynchronization(t api.Type) bool {
	switch t.Kind {
	case api.TMutex, api.TRW, api.TGroup, api.TOnce, api.TAtomic:
		return true
	}
	return false
}
