package types

import (
	"math"
	"reflect"
	"slices"
	"strings"
	"testing"

	"interleave/api"
	"interleave/parse"
)

type kids = []api.Node

// typed builds an NType.
func typed(text string) api.Node { return api.Node{Kind: api.NType, Text: text} }

// nameless builds a node without a text.
func nameless(kind int, l ...api.Node) api.Node { return api.Node{Kind: kind, Kids: l} }

func structure(name string, fields ...api.Node) api.Node {
	return api.Node{Kind: api.NStruct, Text: name, Kids: fields}
}

func field(name string, l ...api.Node) api.Node {
	return api.Node{Kind: api.NField, Text: name, Kids: l}
}

// denoted returns the types that NTypes denote, by their texts.
func denoted() map[string]api.Type {
	m := map[string]api.Type{}
	for _, s := range strings.Fields("int bool []int chan func mutex rwmutex group once atomic") {
		for _, x := range table {
			if x.text == s || x.text == s+" int" || x.text == s+"()" {
				m[s] = x.t
			}
		}
	}
	return m
}

// specifiedType is Of for a node, as the chapter and the table of layer 3 say it.
func specifiedType(n api.Node) (api.Type, bool) {
	if len(n.Kids) > 0 {
		return none, false
	}
	switch n.Kind {
	case api.NType:
		x, ok := denoted()[n.Text]
		return x, ok
	case api.NPointer:
		if slices.Contains(names, n.Text) {
			return pointer(n.Text), true
		}
	case api.NNone:
		return none, n.Text == ""
	}
	return none, false
}

func checkOf(t *testing.T, n api.Node) {
	t.Helper()
	want, wanted := specifiedType(n)
	if got, ok := Of(n); got != want || ok != wanted {
		t.Errorf("Of(%d %.40q, %d children) = %v, %t", n.Kind, n.Text, len(n.Kids), got, ok)
	}
}

// P5.1: nodes of all kinds, with all texts, and with children.
func TestOf(t *testing.T) {
	texts := append(slices.Clone(names), noNames...)
	for _, x := range samples() {
		texts = append(texts, x.text, x.text+" ")
	}
	for kind := -1; kind <= api.NLiteral+1; kind++ {
		for _, s := range texts {
			for _, l := range []kids{nil, {}, {{}}, {typed("int")}, {nameless(api.NNone)}, {typed("int"), nameless(api.NNone)}} {
				checkOf(t, api.Node{Kind: kind, Text: s, Kids: l})
			}
		}
	}
	if len(denoted()) != 10 {
		t.Error(denoted())
	}
	for _, kind := range []int{math.MinInt, math.MaxInt, 1<<32 + api.NType} {
		checkOf(t, api.Node{Kind: kind, Text: "int"})
		checkOf(t, api.Node{Kind: kind})
	}
}

// P5.1: the fields that have no meaning in trees that are not checked have no influence.
func TestOfAnnotated(t *testing.T) {
	for _, n := range []api.Node{typed("int"), typed("chan"), typed("string"), {Kind: api.NPointer, Text: "T"}, {Kind: api.NPointer, Text: "go"}, nameless(api.NNone), nameless(api.NName)} {
		for _, num := range []int{math.MinInt, -1, 1, 2, math.MaxInt} {
			n.Num, n.At, n.Ref, n.Up, n.Type, n.Kids = num, num, num, num, boolean, make(kids, 0, 3)
			checkOf(t, n)
		}
	}
}

// P5.1: the types that variables, fields and results have in a source text are those with the texts that it contains.
func TestOfParsed(t *testing.T) {
	for _, x := range samples() {
		if x.list == invalid || x.list == alone {
			continue
		}
		f, _, e := parse.Parse("var x " + x.text + "; type T struct { a " + x.text + " }; func f(b " + x.text + ") " + x.text + " { }; func g() { }")
		if e != api.OK {
			t.Fatal(x.text, e)
		}
		variable, structure, function, other := f.Kids[0], f.Kids[1], f.Kids[2], f.Kids[3]
		for _, n := range []api.Node{variable.Kids[0], structure.Kids[0].Kids[0], function.Kids[0].Kids[0].Kids[0], function.Kids[1]} {
			if got, ok := Of(n); got != x.t || !ok {
				t.Error(x.text, got, ok)
			}
		}
		if got, ok := Of(other.Kids[1]); got != none || !ok {
			t.Error("no result", got, ok)
		}
	}
}

// checkFields requires the fields of the struct with this name, and that there are none if want is nil.
func checkFields(t *testing.T, f api.Node, name string, want []api.Field) {
	t.Helper()
	if got, ok := Fields(f, name); !slices.Equal(got, want) || ok != (want != nil) {
		t.Errorf("Fields of %q = %v, %t", name, got, ok)
	}
}

// P5.1: the fields of the structs of a source text, in order.
func TestFields(t *testing.T) {
	f, _, e := parse.Parse("var V int; type A struct { a int; b *A; c *B; d []int; e chan int; f func() }; func F() { }; type E struct { }; type B struct { m mutex; r rwmutex; g group; o once; x atomic; y bool }")
	if e != api.OK {
		t.Fatal(e)
	}
	checkFields(t, f, "A", []api.Field{{Name: "a", Type: integer}, {Name: "b", Type: pointer("A")}, {Name: "c", Type: pointer("B")},
		{Name: "d", Type: api.Type{Kind: api.TSlice}}, {Name: "e", Type: api.Type{Kind: api.TChan}}, {Name: "f", Type: closure}})
	checkFields(t, f, "B", []api.Field{{Name: "m", Type: api.Type{Kind: api.TMutex}}, {Name: "r", Type: api.Type{Kind: api.TRW}}, {Name: "g", Type: api.Type{Kind: api.TGroup}},
		{Name: "o", Type: api.Type{Kind: api.TOnce}}, {Name: "x", Type: api.Type{Kind: api.TAtomic}}, {Name: "y", Type: boolean}})
	checkFields(t, f, "E", []api.Field{})
	for _, name := range []string{"", "V", "F", "C", "a", "AA", "A ", "int", "E\x00"} {
		checkFields(t, f, name, nil)
	}
	checkFields(t, api.Node{}, "", nil)
	checkFields(t, api.Node{}, "A", nil)
}

// P5.1: the first struct with the name counts, among the children of the node, whatever the node is.
func TestWhichStruct(t *testing.T) {
	x, y := field("x", typed("int")), field("y", typed("bool"))
	wantX, wantY := []api.Field{{Name: "x", Type: integer}}, []api.Field{{Name: "y", Type: boolean}}
	for _, kind := range []int{api.NFile, api.NStruct, api.NBlock, api.NNone, 0, -1} {
		checkFields(t, nameless(kind, structure("T", x), structure("T", y)), "T", wantX)
		checkFields(t, nameless(kind, structure("S", x), structure("T", y)), "T", wantY)
		checkFields(t, nameless(kind, structure("T"), structure("T", y)), "T", []api.Field{})
		checkFields(t, nameless(kind, structure("T", field("x")), structure("T", y)), "T", nil)
		checkFields(t, nameless(kind, structure("T", x), structure("T", field("y"))), "T", wantX)
		checkFields(t, nameless(kind, structure("S", field("x")), structure("T", y)), "T", wantY)
		checkFields(t, nameless(kind, nameless(api.NFile, structure("T", x)), structure("T", y)), "T", wantY)
		checkFields(t, nameless(kind, structure("", x), structure("go", y), structure("x y", x)), "", wantX)
		checkFields(t, nameless(kind, structure("", x), structure("go", y), structure("x y", x)), "go", wantY)
		checkFields(t, nameless(kind, structure("", x), structure("go", y), structure("x y", x)), "x y", wantX)
	}
	checkFields(t, structure("T", x), "T", nil)
	for other := -1; other <= api.NLiteral+1; other++ {
		n := structure("T", x)
		n.Kind = other
		want := wantY
		if other == api.NStruct {
			want = wantX
		}
		checkFields(t, nameless(api.NFile, n, structure("T", y)), "T", want)
	}
}

// P5.1: what the children of a struct may be. The names of the fields do not matter, and a field may have the type of none.
func TestWhichFields(t *testing.T) {
	x, missing := field("x", typed("int")), nameless(api.NNone)
	wantX := api.Field{Name: "x", Type: integer}
	for _, bad := range []api.Node{
		{}, field("a"), field("a", typed("string")), field("a", typed("chan int")), field("a", typed("")), field("a", typed("int"), typed("int")), field("a", typed("int"), missing),
		field("a", nameless(api.NPointer)), field("a", api.Node{Kind: api.NPointer, Text: "go"}), field("a", api.Node{}), field("a", x), field("a", structure("T", x)),
		field("a", api.Node{Kind: api.NNone, Text: "x"}), field("a", nameless(api.NNone, missing)), field("a", api.Node{Kind: api.NType, Text: "int", Kids: kids{missing}}),
		{Kind: api.NVar, Text: "a", Kids: kids{typed("int")}}, {Kind: api.NParams, Kids: kids{typed("int")}}, typed("int"), missing,
	} {
		for _, l := range []kids{{bad}, {x, bad}, {bad, x}, {x, x, bad, x}} {
			checkFields(t, nameless(api.NFile, structure("T", l...)), "T", nil)
		}
	}
	checkFields(t, nameless(api.NFile, structure("T", x, x, field("x", typed("bool")))), "T", []api.Field{wantX, wantX, {Name: "x", Type: boolean}})
	checkFields(t, nameless(api.NFile, structure("T", field("", missing), x)), "T", []api.Field{{}, wantX})
	for _, s := range noNames {
		checkFields(t, nameless(api.NFile, structure("T", field(s, typed("int")))), "T", []api.Field{{Name: s, Type: integer}})
	}
}

// P5.1, and rule 5: neither a call nor a change of its result changes the arguments, and so the next result.
func TestArgumentsStay(t *testing.T) {
	build := func() api.Node {
		fields := append(make(kids, 0, 5), field("x", typed("int")), field("p", api.Node{Kind: api.NPointer, Text: "T", Kids: make(kids, 0, 2)}))
		return nameless(api.NFile, structure("T", fields...), structure("U", field("a", typed("once"))))
	}
	f := build()
	for range 2 {
		l, ok := Fields(f, "T")
		if !ok || len(l) != 2 || l[0] != (api.Field{Name: "x", Type: integer}) || l[1] != (api.Field{Name: "p", Type: pointer("T")}) {
			t.Fatal(l, ok)
		}
		for i := range l {
			l[i] = api.Field{Name: "changed"}
		}
		if !reflect.DeepEqual(f, build()) {
			t.Fatal(f)
		}
	}
	if spare := f.Kids[0].Kids[:5][2]; spare.Kind != 0 || spare.Text != "" {
		t.Error(spare)
	}
}
