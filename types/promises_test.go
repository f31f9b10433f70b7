package types

import (
	"slices"
	"strings"
	"testing"

	"interleave/api"
)

// P5.2: different valid types have different texts.
func TestDifferentTexts(t *testing.T) {
	l := slices.DeleteFunc(samples(), func(x sample) bool { return x.list == invalid })
	for i := range 1000 {
		s := "T" + strings.Repeat("x", i%31)
		if i >= 31 {
			s = string(rune('a'+i%26)) + string(rune('a'+i/26%26)) + string(rune('0'+i/676))
		}
		if !slices.Contains(names, s) {
			l = append(l, sample{t: pointer(s)})
		}
	}
	types := map[string]api.Type{}
	for _, x := range l {
		s := Text(x.t)
		if other, ok := types[s]; ok && other != x.t || s == "" && x.t != none {
			t.Errorf("%v and %v: %q", other, x.t, s)
		}
		types[s] = x.t
	}
	if len(types) != len(l) {
		t.Error(len(types), len(l))
	}
}

// P5.3: what holds for each type.
func TestRulesOfOneType(t *testing.T) {
	isReference := func(x api.Type) bool { return Cell(x) == api.CellRef }
	for _, x := range samples() {
		if Assignable(x.t, x.t) != Value(x.t) {
			t.Error(x.t, "to itself")
		}
		if Assignable(x.t, null) != isReference(x.t) || isReference(x.t) != (x.list == reference) {
			t.Error("nil to", x.t)
		}
		if Comparable(x.t, null) != isReference(x.t) || Comparable(null, x.t) != isReference(x.t) {
			t.Error(x.t, "with nil")
		}
		if Assignable(null, x.t) || Assignable(none, x.t) {
			t.Error(x.t, "to nil, or to none")
		}
	}
}

// P5.3: what holds for each two types.
func TestRulesOfTwoTypes(t *testing.T) {
	l := samples()
	for _, a := range l {
		for _, b := range l {
			if Assignable(a.t, b.t) && Assignable(b.t, a.t) && a.t != b.t {
				t.Errorf("%v and %v are assignable to each other", a.t, b.t)
			}
			if Comparable(a.t, b.t) != Comparable(b.t, a.t) {
				t.Errorf("Comparable(%v, %v) is not symmetric", a.t, b.t)
			}
			if (a.list == invalid || b.list == invalid) && (Assignable(a.t, b.t) || Comparable(a.t, b.t)) {
				t.Errorf("%v and %v", a.t, b.t)
			}
		}
	}
}

// P5.3: the result of a binary operation is an integer or a boolean.
func TestResults(t *testing.T) {
	permitted := map[api.Type]int{}
	for _, op := range operators() {
		for _, a := range few() {
			for _, b := range few() {
				if result, ok := Binary(op, a.t, b.t); ok {
					permitted[result]++
				} else if result != none {
					t.Errorf("Binary(%q, %v, %v) = %v, %t", op, a.t, b.t, result, ok)
				}
			}
		}
	}
	if len(permitted) != 2 || permitted[integer] != 5 || permitted[boolean] < 10 {
		t.Error(permitted)
	}
}

// The examples of the chapter.
func TestExamples(t *testing.T) {
	star, other, slice := pointer("T"), pointer("U"), api.Type{Kind: api.TSlice}
	if s := Text(star); s != "*T" {
		t.Error(s)
	}
	if !Comparable(star, null) || !Comparable(star, star) || Comparable(star, other) || Comparable(slice, slice) {
		t.Error("comparable")
	}
	checkBinary(t, "<", integer, integer, boolean)
	if params, result, ok := Method(api.Type{Kind: api.TAtomic}, "Add"); !slices.Equal(params, []api.Type{integer}) || result != integer || !ok {
		t.Error(params, result, ok)
	}
}

// call calls every function with these arguments.
func call(n api.Node, s string, a, b api.Type) {
	Of(n)
	Text(a)
	Assignable(a, b)
	Comparable(a, b)
	Binary(s, a, b)
	Cell(a)
	Value(a)
	Fields(n, s)
	Method(a, s)
}

// P1: no call panics, whatever its arguments are, and every call ends, also where nodes contain themselves.
func TestTotality(t *testing.T) {
	deep := typed("int")
	for range 100000 {
		deep = nameless(api.NType, deep)
	}
	var nodes kids
	for kind := -2; kind <= api.NLiteral+2; kind++ {
		round := make(kids, 2)
		round[0] = api.Node{Kind: kind, Kids: round}
		round[1] = field("x", round[0])
		nodes = append(nodes, round[0], nameless(kind), nameless(kind, deep), nameless(kind, structure("T", field("x", deep)), deep), api.Node{Kind: kind, Text: strings.Repeat("x", 1<<20)})
	}
	wide := make(kids, 1<<16)
	nodes = append(nodes, nameless(api.NFile, wide...), nameless(api.NFile, structure("T", wide...)), deep)
	for i, n := range nodes {
		for _, x := range few() {
			call(n, []string{"", "T", "+", "Lock"}[i%4], x.t, pointer("T"))
		}
	}
	for _, s := range []string{strings.Repeat("\xff", 1<<20), strings.Repeat("a\n", 1<<20), strings.Repeat("T", 20000)} {
		for kind := -1; kind <= 13; kind++ {
			long := api.Type{Kind: kind, Name: s}
			call(nameless(api.NFile, structure(s)), s, long, long)
			if Text(long) != "" || Value(long) || Assignable(long, long) || Comparable(long, long) {
				t.Error(kind, len(s))
			}
		}
	}
}
