package check

import (
	"interleave/api"
	"interleave/types"
)

func (c *checker) file(n *api.Node) {
	c.collect(n.Kids)
	for i := range n.Kids {
		c.declaration(&n.Kids[i])
	}
	c.start(n)
}

// collect makes all declarations known before any of them is checked, because they are visible in the whole file.
func (c *checker) collect(l []api.Node) {
	variables, functions := 0, 0
	for i := range l {
		n := &l[i]
		require(!c.known(n.Text), n, api.ErrDuplicate)
		switch n.Kind {
		case api.NStruct:
			c.structs[n.Text], _ = types.Fields(api.Node{Kids: l[i:]}, n.Text)
		case api.NVar:
			c.globals[n.Text] = global{ref: api.RefGlobal, num: variables, t: denoted(n.Kids[0])}
			variables++
		case api.NFunc:
			c.globals[n.Text] = callable(n, functions)
			functions++
		}
	}
}

func (c *checker) known(name string) bool {
	_, structure := c.structs[name]
	_, other := c.globals[name]
	return structure || other
}

// callable returns what a function declaration declares.
func callable(n *api.Node, num int) global {
	g := global{ref: api.RefFunc, num: num, call: signature{result: denoted(n.Kids[1])}}
	for _, p := range n.Kids[0].Kids {
		g.call.params = append(g.call.params, denoted(p.Kids[0]))
	}
	if g.call.empty() {
		g.t = plain(api.TFunc)
	}
	return g
}

// empty reports whether there are neither parameters nor a result.
func (s signature) empty() bool { return len(s.params) == 0 && s.result.Kind == api.TNone }

// denoted returns the type of a node that layer 3 permits where a type stands.
func denoted(n api.Node) api.Type {
	t, _ := types.Of(n)
	return t
}

func (c *checker) declaration(n *api.Node) {
	switch n.Kind {
	case api.NStruct:
		c.fields(n.Kids)
	case api.NVar:
		c.anyType(&n.Kids[0])
	case api.NFunc:
		c.function(n)
	}
}

func (c *checker) fields(l []api.Node) {
	seen := map[string]bool{}
	for i := range l {
		n := &l[i]
		require(!seen[n.Text], n, api.ErrDuplicate)
		seen[n.Text] = true
		c.anyType(&n.Kids[0])
	}
}

// anyType checks a type, and returns it.
func (c *checker) anyType(n *api.Node) api.Type {
	if n.Kind == api.NPointer {
		c.structure(n)
	}
	return denoted(*n)
}

// structure requires that the text of a node is the name of a struct.
func (c *checker) structure(n *api.Node) {
	_, found := c.structs[n.Text]
	require(found, n, api.ErrName)
}

// valueType checks the type of a local variable, a parameter or a result, and returns it.
func (c *checker) valueType(n *api.Node) api.Type {
	t := c.anyType(n)
	require(types.Value(t), n, api.ErrType)
	return t
}

func (c *checker) function(n *api.Node) {
	params, result, body := n.Kids[0].Kids, &n.Kids[1], n.Kids[2].Kids
	c.inner = function{}
	c.open()
	for i := range params {
		p := &params[i]
		c.undeclared(p)
		c.declare(p, c.valueType(&p.Kids[0]))
	}
	if result.Kind != api.NNone {
		c.inner.result = c.valueType(result)
	}
	c.statements(body)
	require(result.Kind == api.NNone || terminates(body), n, api.ErrType)
	c.shut()
}

// start requires that there is a function with which the program can start.
func (c *checker) start(file *api.Node) {
	for i := range file.Kids {
		if n := &file.Kids[i]; n.Kind == api.NFunc && n.Text == "main" {
			require(c.globals[n.Text].call.empty(), n, api.ErrType)
			return
		}
	}
	panic(violation{0, api.ErrName})
}
