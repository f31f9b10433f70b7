package check

import (
	"interleave/api"
	"interleave/types"
)

// block checks the statements of a block in a scope of its own.
func (c *checker) block(n *api.Node) {
	c.open()
	c.statements(n.Kids)
	c.shut()
}

func (c *checker) statements(l []api.Node) {
	for i := range l {
		c.statement(&l[i])
	}
}

// statement checks a statement. Where one may be missing, an NNone stands for it.
func (c *checker) statement(n *api.Node) {
	switch n.Kind {
	case api.NVar:
		c.variable(n)
	case api.NDefine:
		t := c.expression(&n.Kids[0])
		require(types.Value(t), &n.Kids[0], api.ErrType)
		c.declare(n, t)
	case api.NAssign:
		c.assignment(n)
	case api.NExpr, api.NGo, api.NDefer:
		c.expression(&n.Kids[0])
	case api.NSend:
		c.operand(&n.Kids[0], api.TChan)
		c.operand(&n.Kids[1], api.TInt)
	case api.NClose:
		c.operand(&n.Kids[0], api.TChan)
	case api.NPrint:
		t := c.expression(&n.Kids[0])
		require(t.Kind == api.TInt || t.Kind == api.TBool, &n.Kids[0], api.ErrType)
	case api.NIf, api.NFor:
		if n.Kids[0].Kind != api.NNone {
			c.operand(&n.Kids[0], api.TBool)
		}
		c.statements(n.Kids[1:])
	case api.NReturn:
		c.returning(n)
	case api.NSelect:
		c.choice(n.Kids)
	case api.NBlock:
		c.block(n)
	}
}

// variable checks the declaration of a local variable.
func (c *checker) variable(n *api.Node) {
	t := c.valueType(&n.Kids[0])
	if n.Kids[1].Kind != api.NNone {
		c.value(&n.Kids[1], t)
	}
	c.declare(n, t)
}

// value checks an expression whose value is stored in a variable of this type.
func (c *checker) value(n *api.Node, to api.Type) {
	from := c.expression(n)
	require(types.Assignable(to, from), n, api.ErrType)
}

func (c *checker) assignment(n *api.Node) {
	target := &n.Kids[0]
	t := c.expression(target)
	require(isTarget(target), target, api.ErrType)
	c.value(&n.Kids[1], t)
}

func isTarget(n *api.Node) bool {
	switch n.Kind {
	case api.NName:
		return n.Ref != api.RefFunc
	case api.NMember, api.NIndex:
		return true
	}
	return false
}

func (c *checker) returning(n *api.Node) {
	needed := c.inner.result.Kind != api.TNone
	require(needed == (len(n.Kids) > 0), n, api.ErrType)
	if needed {
		c.value(&n.Kids[0], c.inner.result)
	}
}

// choice checks the cases of a select statement.
func (c *checker) choice(l []api.Node) {
	defaults := 0
	for i := range l {
		communication, body := &l[i].Kids[0], &l[i].Kids[1]
		if communication.Kind == api.NNone {
			defaults++
			require(defaults == 1, &l[i], api.ErrDuplicate)
		}
		c.open()
		c.statement(communication)
		c.statements(body.Kids)
		c.shut()
	}
}

// terminates reports whether the statements terminate. A branch that is missing does not.
func terminates(l []api.Node) bool {
	if len(l) == 0 {
		return false
	}
	switch n := l[len(l)-1]; n.Kind {
	case api.NReturn:
		return true
	case api.NFor:
		return n.Kids[0].Kind == api.NNone
	case api.NBlock:
		return terminates(n.Kids)
	case api.NIf:
		return terminates(n.Kids[1:2]) && terminates(n.Kids[2:])
	}
	return false
}
