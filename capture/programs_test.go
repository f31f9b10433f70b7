package capture

import (
	"slices"
	"strconv"
	"strings"
	"testing"

	"interleave/api"
)

// variable is a variable or a function without parameters and result, with the text of its type.
type variable struct{ name, t string }

// author writes programs that layer 6 accepts, with many function literals.
type author struct {
	*chooser
	unique    bool // whether no two variables have the same name
	variables int
	scopes    [][]variable // from the outermost one, which has the globals
	result    bool         // whether the innermost function has a result
}

var (
	valueTypes  = strings.Split("int,int,bool,[]int,chan int,func(),*T", ",")
	commonNames = strings.Fields("a b c n g s T k")
)

// programs writes the texts of programs. Their size limits their levels.
func programs(count, size int, unique bool) []string {
	const head = "type T struct { n int; t *T; f func(); m mutex }; var g int; var p *T; var at atomic; var on once\n"
	w := &author{chooser: &chooser{state: uint64(size)}, unique: unique, scopes: [][]variable{{{"g", "int"}, {"p", "*T"}}}}
	var l []string
	for range count {
		some := []string{pick(w.chooser, valueTypes), pick(w.chooser, valueTypes), pick(w.chooser, valueTypes)}[:w.below(4)]
		l = append(l, head+w.function("some", some, "", size)+w.function("count", []string{"int", "func()"}, "int", size)+w.function("main", nil, "", size))
	}
	return l
}

// files returns the annotated files of programs.
func files(t *testing.T, count, size int) []api.Node {
	t.Helper()
	var l []api.Node
	for _, s := range programs(count, size, false) {
		l = append(l, annotated(t, s))
	}
	return l
}

// function writes a declaration. The types are those of its parameters.
func (w *author) function(name string, types []string, result string, size int) string {
	w.result = result != ""
	w.open()
	var params []string
	for _, t := range types {
		params = append(params, w.declare(t)+" "+t)
	}
	s := w.statements(size)
	if w.result {
		s += "return " + w.value("int", size) + "\n"
	}
	w.shut()
	return "func " + name + "(" + strings.Join(params, ", ") + ") " + result + " {\n" + s + "}\n"
}

func (w *author) open() { w.scopes = append(w.scopes, nil) }

func (w *author) shut() { w.scopes = w.scopes[:len(w.scopes)-1] }

// declare adds a variable to the innermost scope, and returns its name.
func (w *author) declare(t string) string {
	last := len(w.scopes) - 1
	w.variables++
	name := pick(w.chooser, commonNames)
	known := func(v variable) bool { return v.name == name }
	if w.unique || slices.ContainsFunc(w.scopes[last], known) {
		name = "v" + strconv.Itoa(w.variables)
	}
	w.scopes[last] = append(w.scopes[last], variable{name, t})
	return name
}

// visible returns the names of the visible variables of a type.
func (w *author) visible(t string) []string {
	hidden := map[string]bool{}
	var l []string
	for _, scope := range slices.Backward(w.scopes) {
		for _, v := range scope {
			if v.t == t && !hidden[v.name] {
				l = append(l, v.name)
			}
		}
		for _, v := range scope {
			hidden[v.name] = true
		}
	}
	return l
}

// words picks one of some forms, and replaces the words I, B, S, C, F and P by values of the types, L by a function literal, and block
// by statements in braces.
func (w *author) words(size int, forms ...string) string {
	var l []string
	for s := range strings.FieldsSeq(pick(w.chooser, forms)) {
		switch s {
		case "I", "B", "S", "C", "F", "P":
			s = w.value(map[string]string{"I": "int", "B": "bool", "S": "[]int", "C": "chan int", "F": "func()", "P": "*T"}[s], size-1)
		case "L":
			s = w.literal(size - 1)
		case "block":
			s = w.block(size - 1)
		}
		l = append(l, s)
	}
	return strings.Join(l, " ")
}

func (w *author) block(size int) string {
	w.open()
	s := w.statements(size)
	w.shut()
	return "{\n" + s + "}"
}

func (w *author) literal(size int) string {
	outer := w.result
	w.result = false
	s := "func() " + w.block(size)
	w.result = outer
	return s
}

// value writes an expression of a type that can be an operand without parentheses.
func (w *author) value(t string, size int) string {
	if l := w.visible(t); len(l) > 0 && (size <= 0 || w.below(2) == 0) {
		return pick(w.chooser, l)
	}
	switch t {
	case "int":
		if size <= 0 {
			return strconv.Itoa(w.below(3))
		}
		return w.words(size, "( I + I )", "( - I )", "S [ I ]", "len( S )", "( <- C )", "P .n", "P .t.n", "count( I , F )", "count( I , L )", "at.Add( I )")
	case "bool":
		if size <= 0 {
			return "true"
		}
		return w.words(size, "( I < I )", "( I == I )", "( B && B )", "( ! B )", "( F == nil )", "( L == nil )", "( P != P )", "at.CompareAndSwap( I , I )")
	case "[]int":
		return w.words(size, "make([]int, I )")
	case "chan int":
		return w.words(size, "make(chan int, I )")
	case "*T":
		return w.words(size, "new(T)", "P .t")
	}
	return w.literal(size - 1)
}

func (w *author) statements(size int) string {
	if size <= 0 {
		return w.assignment(pick(w.chooser, valueTypes), 0) + "\n"
	}
	s := ""
	for range w.below(4) + 1 {
		s += w.statement(size) + "\n"
	}
	return s
}

// assignment writes an assignment to a visible variable, and nothing if there is none of this type.
func (w *author) assignment(t string, size int) string {
	if l := w.visible(t); len(l) > 0 {
		return pick(w.chooser, l) + " = " + w.value(t, size-1)
	}
	return ""
}

func (w *author) statement(size int) string {
	t := pick(w.chooser, valueTypes)
	switch w.below(12) {
	case 0:
		return "var " + w.declare(t) + " " + t
	case 1:
		v := w.value(t, size-1)
		return "var " + w.declare(t) + " " + t + " = " + v
	case 2, 3:
		v := w.value(t, size-1)
		return w.declare(t) + " := " + v
	case 4, 5:
		return w.assignment(t, size)
	case 6:
		return w.words(size, "if B block", "if B block else block", "if B block else if B block else block", "for B block", "for block", "block")
	case 7:
		return w.choice(size)
	case 8:
		if w.result {
			return w.words(size, "return I")
		}
		return "return"
	case 9:
		return w.words(size, "P .n = I", "P .t = P", "P .f = F", "S [ I ] = I", "C <- I", "close( C )", "<- C", "print( I )", "print( B )", "count( I , F )", "on.Do( F )", "P .m.Lock()", "go P .m.Unlock()", "at.Store( I )")
	}
	return w.words(size, "L ()", "F ()", "go L ()", "go F ()", "defer L ()", "on.Do( L )", "P .f = L")
}

func (w *author) choice(size int) string {
	s := "select {\n"
	for range w.below(4) {
		w.open()
		head := w.words(size, "C <- I", "<- C", "P .n = <- C", "S [ I ] = <- C", "")
		if head == "" {
			v := w.value("chan int", size-1)
			head = w.declare("int") + " := <-" + v
		}
		s += "case " + head + ":\n" + w.statements(size-1)
		w.shut()
	}
	return s + w.words(size, "", "default:\n") + "}"
}
