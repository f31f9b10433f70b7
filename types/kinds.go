package types

import (
	"interleave/api"
	"interleave/syntax"
)

// texts are the texts of the types by their kinds. The text of a pointer type contains its name.
var texts = [...]string{
	api.TInt: "int", api.TBool: "bool", api.TNil: "nil", api.TSlice: "[]int", api.TChan: "chan int", api.TFunc: "func()",
	api.TMutex: "mutex", api.TRW: "rwmutex", api.TGroup: "group", api.TOnce: "once", api.TAtomic: "atomic",
}

// kindOf returns the kind of the type that an NType with this text denotes.
func kindOf(text string) int {
	switch text {
	case "chan":
		return api.TChan
	case "func":
		return api.TFunc
	}
	for kind, s := range texts {
		if s == text {
			return kind
		}
	}
	return api.TNone
}

// plain returns the type of a kind that has no name.
func plain(kind int) api.Type { return api.Type{Kind: kind} }

func valid(t api.Type) bool {
	if t.Kind == api.TPointer {
		return isName(t.Name)
	}
	return t.Name == "" && t.Kind >= api.TNone && t.Kind <= api.TAtomic
}

func isReference(t api.Type) bool {
	switch t.Kind {
	case api.TPointer, api.TSlice, api.TChan, api.TFunc:
		return valid(t)
	}
	return false
}

// isName asks layer 3, where the text of a pointer is a name.
func isName(s string) bool { return isType(api.Node{Kind: api.NPointer, Text: s}) }

// isType reports whether n is a type that layer 3 permits. Layer 3 only answers for files, so that n becomes the type of a variable.
func isType(n api.Node) bool {
	variable := api.Node{Kind: api.NVar, Text: "x", Kids: []api.Node{n, {Kind: api.NNone}}}
	return syntax.Valid(api.Node{Kind: api.NFile, Kids: []api.Node{variable}})
}

// fieldsOf returns the fields of an NStruct, and false if one of its children is no field.
func fieldsOf(structure api.Node) ([]api.Field, bool) {
	var l []api.Field
	for _, n := range structure.Kids {
		if n.Kind != api.NField || len(n.Kids) != 1 {
			return nil, false
		}
		t, ok := Of(n.Kids[0])
		if !ok {
			return nil, false
		}
		l = append(l, api.Field{Name: n.Text, Type: t})
	}
	return l, true
}
