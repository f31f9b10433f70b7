package check

import (
	"slices"
	"strings"

	"interleave/api"
)

// chooser makes choices that are the same in every run.
type chooser struct{ state uint64 }

// below returns a number from 0 to n-1.
func (c *chooser) below(n int) int {
	c.state = c.state*6364136223846793005 + 1442695040888963407
	return int(c.state>>33) % n
}

func pick[T any](c *chooser, l []T) T { return l[c.below(len(l))] }

// The names of the variables, functions and structs of random files. They overlap, so that many names hide others.
var (
	localNames  = strings.Fields("x y z a g f T main")
	globalNames = strings.Fields("g h i j x y a b")
	fieldNames  = strings.Fields("a b x y T f Lock")
	valueTypes  = strings.Split("int,bool,[]int,chan,func,*T,*U", ",")
	anyTypes    = append(strings.Fields("mutex rwmutex group once atomic"), valueTypes...)
)

// entry is a variable or a field, with the text of its type.
type entry struct{ name, t string }

// routine is a function with the texts of its types.
type routine struct {
	name   string
	params []entry
	result string
}

// maker makes files that follow the rules.
type maker struct {
	*chooser
	structs   map[string][]entry
	globals   []entry
	functions []routine
	scopes    [][]entry
	result    string // of the innermost function
}

// typeNode builds a node of a type.
func typeNode(s string) api.Node {
	switch {
	case s == "":
		return none()
	case s[0] == '*':
		return texted(api.NPointer, s[1:])
	}
	return typed(s)
}

// entries returns entries with different names.
func (m *maker) entries(most int, names, from []string) []entry {
	var l []entry
	for range m.below(most + 1) {
		x := entry{pick(m.chooser, names), pick(m.chooser, from)}
		if !slices.ContainsFunc(l, func(y entry) bool { return y.name == x.name }) {
			l = append(l, x)
		}
	}
	return l
}

func fieldNodes(l []entry) []api.Node {
	var nodes []api.Node
	for _, x := range l {
		nodes = append(nodes, texted(api.NField, x.name, typeNode(x.t)))
	}
	return nodes
}

// program makes a file. Its size limits its levels.
func program(c *chooser, size int) api.Node {
	m := &maker{chooser: c, structs: map[string][]entry{}}
	m.structs["T"], m.structs["U"] = m.entries(7, fieldNames, anyTypes), m.entries(4, fieldNames, anyTypes)
	m.globals = m.entries(8, globalNames, anyTypes)
	for _, name := range []string{"e", "f", "k", "z", "main"} {
		r := routine{name: name}
		if name != "main" && c.below(3) > 0 {
			r.params, r.result = m.entries(3, localNames, valueTypes), pick(c, append([]string{""}, valueTypes...))
		}
		m.functions = append(m.functions, r)
	}
	f := bare(api.NFile, texted(api.NStruct, "T", fieldNodes(m.structs["T"])...), texted(api.NStruct, "U", fieldNodes(m.structs["U"])...))
	for _, x := range m.globals {
		f.Kids = append(f.Kids, texted(api.NVar, x.name, typeNode(x.t), none()))
	}
	for _, r := range m.functions {
		f.Kids = append(f.Kids, m.function(r, size))
	}
	for i := range f.Kids {
		k := i + c.below(len(f.Kids)-i)
		f.Kids[i], f.Kids[k] = f.Kids[k], f.Kids[i]
	}
	return f
}

// programs makes files that follow the rules.
func programs(count, size int) []api.Node {
	c := &chooser{state: uint64(size)}
	var l []api.Node
	for range count {
		l = append(l, program(c, size))
	}
	return l
}

func (m *maker) function(r routine, size int) api.Node {
	m.scopes, m.result = [][]entry{slices.Clone(r.params)}, r.result
	l := m.statements(4, size)
	if r.result != "" {
		l = append(l, m.ending(size))
	}
	return texted(api.NFunc, r.name, bare(api.NParams, fieldNodes(r.params)...), typeNode(r.result), bare(api.NBlock, l...))
}

// ending makes a statement with which a function with a result can end.
func (m *maker) ending(size int) api.Node {
	block := func() api.Node {
		return m.inner(func() []api.Node { return append(m.statements(1, size-1), m.ending(size-2)) })
	}
	kind := m.below(6)
	if size <= 0 {
		kind = 0
	}
	switch kind {
	case 1:
		return bare(api.NFor, none(), m.block(size))
	case 2:
		return block()
	case 3:
		return bare(api.NIf, m.expression("bool", size-1), block(), block())
	case 4:
		return bare(api.NIf, m.expression("bool", size-1), block(), bare(api.NIf, m.expression("bool", size-2), block(), block()))
	}
	return bare(api.NReturn, m.value(m.result, size))
}

// inner makes a block with a scope of its own.
func (m *maker) inner(statements func() []api.Node) api.Node {
	m.scopes = append(m.scopes, nil)
	l := statements()
	m.scopes = m.scopes[:len(m.scopes)-1]
	return bare(api.NBlock, l...)
}

func (m *maker) block(size int) api.Node {
	return m.inner(func() []api.Node { return m.statements(3, size-1) })
}

func (m *maker) statements(most, size int) []api.Node {
	var l []api.Node
	if size > 0 {
		for range m.below(most + 1) {
			l = append(l, m.statement(size))
		}
	}
	return l
}

// declare gives a name that is new in the innermost scope to a variable that make makes, and adds it.
func (m *maker) declare(t string, make func(name string) api.Node) api.Node {
	last := len(m.scopes) - 1
	known := func(s string) bool {
		return slices.ContainsFunc(m.scopes[last], func(x entry) bool { return x.name == s })
	}
	s := pick(m.chooser, localNames)
	for known(s) {
		s += pick(m.chooser, []string{"1", "_", "x"})
	}
	n := make(s)
	m.scopes[last] = append(m.scopes[last], entry{s, t})
	return n
}

func (m *maker) statement(size int) api.Node {
	t := pick(m.chooser, valueTypes)
	switch m.below(16) {
	case 0, 1:
		return m.declare(t, func(s string) api.Node { return texted(api.NVar, s, typeNode(t), none()) })
	case 2:
		return m.declare(t, func(s string) api.Node { return texted(api.NVar, s, typeNode(t), m.value(t, size-1)) })
	case 3, 4:
		return m.declare(t, func(s string) api.Node { return texted(api.NDefine, s, m.expression(t, size-1)) })
	case 5, 6:
		return m.assignment(t, size)
	case 7:
		return bare(api.NExpr, m.call(size-1))
	case 8:
		return bare(pick(m.chooser, []int{api.NGo, api.NDefer}), m.call(size-1))
	case 9:
		return pick(m.chooser, []func() api.Node{
			func() api.Node { return bare(api.NSend, m.expression("chan", size-1), m.expression("int", size-1)) },
			func() api.Node { return bare(api.NClose, m.expression("chan", size-1)) },
			func() api.Node { return bare(api.NExpr, bare(api.NReceive, m.expression("chan", size-1))) },
		})()
	case 10:
		return bare(api.NPrint, m.expression(pick(m.chooser, []string{"int", "bool"}), size-1))
	case 11:
		return m.conditional(size)
	case 12:
		return bare(api.NFor, pick(m.chooser, []api.Node{none(), m.expression("bool", size-1)}), m.block(size))
	case 13:
		if m.result == "" {
			return bare(api.NReturn)
		}
		return bare(api.NReturn, m.value(m.result, size-1))
	case 14:
		return m.choice(size)
	}
	return m.block(size)
}

func (m *maker) conditional(size int) api.Node {
	condition, then := m.expression("bool", size-1), m.block(size)
	switch {
	case size <= 0 || m.below(3) == 0:
		return bare(api.NIf, condition, then, none())
	case m.below(2) == 0:
		return bare(api.NIf, condition, then, m.block(size))
	}
	return bare(api.NIf, condition, then, m.conditional(size-1))
}

// assignment makes an assignment of this type, if there is a target; otherwise it prints something.
func (m *maker) assignment(t string, size int) api.Node {
	if l := m.targets(t, size-1); len(l) > 0 {
		return bare(api.NAssign, pick(m.chooser, l), m.value(t, size-1))
	}
	return bare(api.NPrint, m.expression("int", size-1))
}

func (m *maker) choice(size int) api.Node {
	n := bare(api.NSelect)
	ordinary := m.below(4)
	for i := range m.below(4) {
		m.scopes = append(m.scopes, nil)
		comm := none()
		if i != ordinary {
			comm = m.communication(size - 1)
		}
		n.Kids = append(n.Kids, bare(api.NCase, comm, bare(api.NBlock, m.statements(2, size-2)...)))
		m.scopes = m.scopes[:len(m.scopes)-1]
	}
	return n
}

func (m *maker) communication(size int) api.Node {
	received := func() api.Node { return bare(api.NReceive, m.expression("chan", size-1)) }
	switch m.below(4) {
	case 0:
		return bare(api.NSend, m.expression("chan", size), m.expression("int", size))
	case 1:
		if l := m.targets("int", size); len(l) > 0 {
			return bare(api.NAssign, pick(m.chooser, l), received())
		}
	case 2:
		return m.declare("int", func(s string) api.Node { return texted(api.NDefine, s, received()) })
	}
	return bare(api.NExpr, received())
}
