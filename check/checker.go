package check

import "interleave/api"

// checker is the state of a check. Its methods set the annotations of the nodes that they check.
type checker struct {
	structs map[string][]api.Field
	globals map[string]global
	scopes  [][]variable // from the outermost one to the innermost one
	inner   function
}

// global is a global variable or a function of the file. A function has a type only where its name is an expression.
type global struct {
	ref, num int
	t        api.Type
	call     signature
}

// signature is what a call needs and gives.
type signature struct {
	params []api.Type
	result api.Type
}

// function is the innermost function, a declaration or a literal.
type function struct {
	level  int // the number of literals around its statements
	locals int // the number of its local variables so far
	result api.Type
}

// variable is a local variable; level is that of its function.
type variable struct {
	name       string
	t          api.Type
	num, level int
}

// violation is the error of a rule, at an offset.
type violation struct {
	at int
	e  api.Errno
}

func newChecker() *checker {
	return &checker{structs: map[string][]api.Field{}, globals: map[string]global{}}
}

// require ends the check with an error at a node unless a rule holds.
func require(holds bool, n *api.Node, e api.Errno) {
	if !holds {
		panic(violation{n.At, e})
	}
}

func plain(kind int) api.Type { return api.Type{Kind: kind} }

func (c *checker) open() { c.scopes = append(c.scopes, nil) }

func (c *checker) shut() { c.scopes = c.scopes[:len(c.scopes)-1] }

// undeclared requires that the name of a declaration is new in the innermost scope.
func (c *checker) undeclared(n *api.Node) {
	_, found := find(c.scopes[len(c.scopes)-1], n.Text)
	require(!found, n, api.ErrDuplicate)
}

// declare adds the variable that a node declares to the innermost scope.
func (c *checker) declare(n *api.Node, t api.Type) {
	c.undeclared(n)
	v := variable{n.Text, t, c.inner.locals, c.inner.level}
	c.inner.locals++
	n.Ref, n.Num = api.RefLocal, v.num
	last := len(c.scopes) - 1
	c.scopes[last] = append(c.scopes[last], v)
}

// local returns the innermost visible variable with a name.
func (c *checker) local(name string) (variable, bool) {
	for i := len(c.scopes) - 1; i >= 0; i-- {
		if v, found := find(c.scopes[i], name); found {
			return v, true
		}
	}
	return variable{}, false
}

func find(scope []variable, name string) (variable, bool) {
	for _, v := range scope {
		if v.name == name {
			return v, true
		}
	}
	return variable{}, false
}
