package fold

import (
	"strconv"
	"strings"
)

// author writes programs that layer 6 accepts, with many constant conditions.
type author struct {
	*chooser
	variables int
	result    bool // whether the innermost function has a result
}

// programs returns the texts of programs.
func programs(count, size int) []string {
	const globals = "type T struct { n int; b bool; m mutex }; var g int; var b bool; var s []int; var c chan int; var p *T; var a atomic; var o once\n"
	w := &author{chooser: &chooser{state: uint64(size)}}
	var l []string
	for range count {
		l = append(l, globals+w.function("h(x int, y bool) int", true, size)+w.function("k()", false, size)+w.function("main()", false, size))
	}
	return l
}

func (w *author) function(head string, result bool, size int) string {
	w.result = result
	s := w.statements(size)
	if result {
		s += w.ending(size)
	}
	return "func " + head + " {\n" + s + "}\n"
}

// form picks one of some forms, and replaces the words I, B, L, S and E by an integer, a boolean, a function literal, statements, and
// statements with an ending.
func (w *author) form(size int, forms ...string) string {
	var l []string
	for _, s := range strings.Fields(pick(w.chooser, forms)) {
		switch s {
		case "I":
			s = w.integer(size - 1)
		case "B":
			s = w.boolean(size - 1)
		case "L":
			s = w.literal(size - 1)
		case "S":
			s = w.statements(size - 1)
		case "E":
			s = w.statements(size-2) + w.ending(size-1)
		}
		l = append(l, s)
	}
	return strings.Join(l, " ")
}

// literal writes a function literal. It has no result, whatever the function around it has.
func (w *author) literal(size int) string {
	outer := w.result
	w.result = false
	s := "func() {\n" + w.statements(size) + "}"
	w.result = outer
	return s
}

func (w *author) statements(size int) string {
	s := ""
	if size > 0 {
		for range w.below(4) {
			s += w.statement(size) + "\n"
		}
	}
	return s
}

func (w *author) statement(size int) string {
	switch w.below(10) {
	case 0:
		w.variables++
		v := "v" + strconv.Itoa(w.variables)
		return w.form(size, v+" := I", "var "+v+" int = I", v+" := B", v+" := L", v+" := make([]int, I )")
	case 1:
		if w.result {
			return w.form(size, "return I")
		}
		return "return"
	case 2, 3, 4, 5:
		return w.form(size, "if B { S }", "if B { S } else { S }", "if B { S } else if B { S }", "if B { S } else if B { S } else { S }", "for B { S }", "{ S }",
			"select {\ncase c <- I : S \ncase v := <-c: g = v; S \ndefault: S \n}", "select {\ncase g = <-c: S \ncase <-c: S \n}")
	}
	return w.form(size, "g = I", "b = B", "p.n = I", "s[ I ] = I", "print( I )", "print( B )", "c <- I", "c = make(chan int, I )", "go L ()", "defer L ()", "o.Do( L )", "a.Store( I )", "h( I , B )")
}

// ending writes a statement with which a function with a result can end.
func (w *author) ending(size int) string {
	if size <= 0 {
		return "return " + w.integer(size) + "\n"
	}
	return w.form(size, "return I", "for { S }", "{ E }", "if B { E } else { E }", "if B { E } else if B { E } else { E }") + "\n"
}

func (w *author) integer(size int) string {
	if size <= 0 || w.below(3) == 0 {
		return w.word("0 1 2 3 9223372036854775807 g p.n len(s)")
	}
	return w.form(size, "( I + I )", "( I - I )", "( I * I )", "( I / I )", "( I % I )", "(- I )", "(- I )", "(-9223372036854775807-1)", "s[ I ]", "(<-c)", "a.Load()", "a.Add( I )", "h( I , B )")
}

func (w *author) boolean(size int) string {
	if size <= 0 || w.below(3) == 0 {
		return w.word("true false true false b p.b (p==nil)")
	}
	return w.form(size, "(! B )", "( B && B )", "( B || B )", "( B == B )", "( B != B )", "( I == I )", "( I != I )", "( I < I )", "( I <= I )", "( I > I )", "( I >= I )", "a.CompareAndSwap( I , I )")
}
