package check

import (
	"slices"
	"strings"

	"interleave/api"
)

// visible returns the variables that are not hidden.
func (m *maker) visible() []entry {
	var l []entry
	add := func(from []entry) {
		for _, x := range from {
			if !slices.ContainsFunc(l, func(y entry) bool { return y.name == x.name }) {
				l = append(l, x)
			}
		}
	}
	for i := len(m.scopes) - 1; i >= 0; i-- {
		add(m.scopes[i])
	}
	add(m.globals)
	return l
}

// callable returns the functions that no local variable hides.
func (m *maker) callable() []routine {
	hidden := slices.Concat(m.scopes...)
	return slices.DeleteFunc(slices.Clone(m.functions), func(r routine) bool {
		return slices.ContainsFunc(hidden, func(x entry) bool { return x.name == r.name })
	})
}

// pointer makes an expression of the type *T or *U.
func (m *maker) pointer(to string, size int) api.Node {
	if size <= 0 {
		return texted(api.NNew, to)
	}
	return m.expression("*"+to, size-1)
}

// places returns expressions for variables and fields of this type.
func (m *maker) places(t string, size int) []api.Node {
	var l []api.Node
	for _, x := range m.visible() {
		if x.t == t {
			l = append(l, name(x.name))
		}
	}
	for _, to := range []string{"T", "U"} {
		for _, x := range m.structs[to] {
			if x.t == t && size > 0 {
				l = append(l, texted(api.NMember, x.name, m.pointer(to, size-1)))
			}
		}
	}
	return l
}

// targets returns what an assignment to this type can have as its target.
func (m *maker) targets(t string, size int) []api.Node {
	l := m.places(t, size)
	if t == "int" {
		l = append(l, bare(api.NIndex, m.expression("[]int", size-1), m.expression("int", size-1)))
	}
	return l
}

// value makes an expression that can be stored in a variable of this type.
func (m *maker) value(t string, size int) api.Node {
	if t != "int" && t != "bool" && m.below(4) == 0 {
		return bare(api.NNil)
	}
	return m.expression(t, size)
}

// expression makes an expression of this type.
func (m *maker) expression(t string, size int) api.Node {
	if l := m.places(t, size); len(l) > 0 && m.below(2) == 0 {
		return pick(m.chooser, l)
	}
	if l := m.results(t); len(l) > 0 && size > 0 && m.below(3) == 0 {
		return m.callOf(pick(m.chooser, l), size-1)
	}
	switch {
	case t == "int":
		return m.integer(size)
	case t == "bool":
		return m.boolean(size)
	case t == "[]int":
		return bare(api.NSlice, m.integer(size-1))
	case t == "chan":
		return bare(api.NChan, m.integer(size-1))
	case t == "func":
		return m.closure(size)
	}
	return texted(api.NNew, t[1:])
}

// results returns the functions whose result has this type.
func (m *maker) results(t string) []routine {
	return slices.DeleteFunc(m.callable(), func(r routine) bool { return r.result != t })
}

func (m *maker) callOf(r routine, size int) api.Node {
	n := bare(api.NCall, name(r.name))
	for _, p := range r.params {
		n.Kids = append(n.Kids, m.value(p.t, size-1))
	}
	return n
}

func (m *maker) integer(size int) api.Node {
	kind := m.below(8)
	if size <= 0 {
		kind = 7
	}
	switch kind {
	case 0, 1:
		return texted(api.NBinary, pick(m.chooser, strings.Fields("+ - * / %")), m.expression("int", size-1), m.expression("int", size-1))
	case 2:
		return texted(api.NUnary, "-", m.expression("int", size-1))
	case 3:
		return bare(api.NReceive, m.expression("chan", size-1))
	case 4:
		return bare(api.NIndex, m.expression("[]int", size-1), m.expression("int", size-1))
	case 5:
		return bare(api.NLen, m.expression("[]int", size-1))
	case 6:
		if l := m.places("atomic", size); len(l) > 0 {
			return bare(api.NCall, texted(api.NMember, "Add", pick(m.chooser, l)), m.expression("int", size-1))
		}
	}
	return api.Node{Kind: api.NInt, Num: pick(m.chooser, []int{0, 1, 12, 1<<63 - 1})}
}

func (m *maker) boolean(size int) api.Node {
	kind := m.below(7)
	if size <= 0 {
		kind = 6
	}
	switch kind {
	case 0:
		return texted(api.NBinary, pick(m.chooser, strings.Fields("< <= > >=")), m.expression("int", size-1), m.expression("int", size-1))
	case 1:
		t := pick(m.chooser, []string{"int", "bool", "chan", "*T", "*U"})
		return texted(api.NBinary, pick(m.chooser, strings.Fields("== !=")), m.expression(t, size-1), m.value(t, size-1))
	case 2:
		t := pick(m.chooser, []string{"[]int", "func", "chan", "*T"})
		return texted(api.NBinary, pick(m.chooser, strings.Fields("== !=")), bare(api.NNil), m.expression(t, size-1))
	case 3:
		return texted(api.NBinary, pick(m.chooser, strings.Fields("&& ||")), m.expression("bool", size-1), m.expression("bool", size-1))
	case 4:
		return texted(api.NUnary, "!", m.expression("bool", size-1))
	case 5:
		if l := m.places("atomic", size); len(l) > 0 {
			return bare(api.NCall, texted(api.NMember, "CompareAndSwap", pick(m.chooser, l)), m.expression("int", size-1), m.expression("int", size-1))
		}
	}
	return api.Node{Kind: api.NBool, Num: m.below(2)}
}

// closure makes a function literal, or the name of a function that can be a value.
func (m *maker) closure(size int) api.Node {
	l := slices.DeleteFunc(m.callable(), func(r routine) bool { return len(r.params) > 0 || r.result != "" })
	if len(l) > 0 && m.below(3) == 0 {
		return name(pick(m.chooser, l).name)
	}
	outer := m.result
	m.result = ""
	n := bare(api.NLiteral, m.block(size))
	m.result = outer
	return n
}

// call makes a call of anything that can be called.
func (m *maker) call(size int) api.Node {
	if l := m.callable(); len(l) > 0 && m.below(3) == 0 {
		return m.callOf(pick(m.chooser, l), size)
	}
	of := pick(m.chooser, strings.Fields("mutex rwmutex group once atomic"))
	l := m.places(of, size)
	if len(l) == 0 || m.below(3) == 0 {
		return bare(api.NCall, m.expression("func", size))
	}
	callee := func(s string) api.Node { return texted(api.NMember, s, pick(m.chooser, l)) }
	switch of {
	case "mutex":
		return bare(api.NCall, callee(pick(m.chooser, strings.Fields("Lock Unlock"))))
	case "rwmutex":
		return bare(api.NCall, callee(pick(m.chooser, strings.Fields("Lock Unlock RLock RUnlock"))))
	case "group":
		return pick(m.chooser, []api.Node{bare(api.NCall, callee("Done")), bare(api.NCall, callee("Wait")), bare(api.NCall, callee("Add"), m.expression("int", size-1))})
	case "once":
		return bare(api.NCall, callee("Do"), m.value("func", size-1))
	}
	return pick(m.chooser, []api.Node{bare(api.NCall, callee("Load")), bare(api.NCall, callee("Store"), m.expression("int", size-1))})
}
