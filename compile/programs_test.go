package compile

import (
	"slices"
	"strconv"
	"strings"
)

// chooser makes choices that are the same in every run.
type chooser struct{ state uint64 }

// below returns a number from 0 to n-1.
func (c *chooser) below(n int) int {
	c.state = c.state*6364136223846793005 + 1442695040888963407
	return int(c.state>>33) % n
}

func pick[T any](c *chooser, l []T) T { return l[c.below(len(l))] }

// variable is a variable, with the text of its type.
type variable struct{ name, t string }

// author writes programs that layer 6 accepts. Most of them run for some time without a fault.
type author struct {
	*chooser
	literals   bool // whether there are function literals
	sequential bool // whether there are neither go statements nor operations on channels
	short      bool // whether main does not set the global variables
	variables  int
	scopes     [][]variable // from the outermost one, which has the globals
	result     string       // the type of the result of the innermost function
}

const head = `type U struct { }
type T struct { n int; b bool; t *T; m mutex; s []int; c chan int; f func(); rw rwmutex; wg group; on once; at atomic }
var g int; var b bool; var gp *T; var gq *T; var gc chan int; var gd chan int; var gs []int; var fn func()
var mu mutex; var rw rwmutex; var wg group; var on once; var at atomic
func v() { g = g + 1; at.Add(1) }
func w() { print(g); defer v() }
`

var (
	valueTypes  = strings.Split("int,int,bool,[]int,chan int,func(),*T", ",")
	commonNames = strings.Fields("a b c k n g s T p")
	starts      = strings.Split("gp = new(T);gq = new(T);gp.t = gq;gq.t = gp;gc = make(chan int, 1);gd = make(chan int, 0);gs = make([]int, 3);fn = v;gp.s = make([]int, 2);gq.s = gs;gp.c = gc;gq.c = gd;gp.f = w;gq.f = v;g = 3;b = true", ";")
)

// program writes a program. Its size limits its levels.
func (w *author) program(size int) string {
	w.scopes = [][]variable{{{"g", "int"}, {"b", "bool"}, {"gp", "*T"}, {"gq", "*T"}, {"gc", "chan int"}, {"gd", "chan int"}, {"gs", "[]int"}, {"fn", "func()"}}}
	text := head
	some := []string{pick(w.chooser, valueTypes), pick(w.chooser, valueTypes), pick(w.chooser, valueTypes)}[:w.below(4)]
	text += w.function("some", some, "", size)
	text += w.function("count", []string{"int", "func()"}, "int", size)
	text += w.function("holds", []string{"*T", "bool"}, "bool", size)
	text += w.function("next", []string{"*T"}, "*T", size)
	return text + w.function("main", nil, "", size+1)
}

// function writes a declaration. The types are those of its parameters.
func (w *author) function(name string, types []string, result string, size int) string {
	w.result = result
	w.open()
	var params []string
	for _, t := range types {
		params = append(params, w.declare(t)+" "+t)
	}
	text := ""
	if name == "main" {
		for _, start := range starts {
			isConcurrent := strings.Contains(start, "c = ") || strings.Contains(start, "d = ")
			if w.below(12) > 0 && !w.short && !(w.sequential && isConcurrent) {
				text += start + "\n"
			}
		}
		text += w.statements(size)
	}
	text += w.statements(size)
	if result != "" {
		text += "return " + w.value(result, size) + "\n"
	}
	w.shut()
	return "func " + name + "(" + strings.Join(params, ", ") + ") " + result + " {\n" + text + "}\n"
}

func (w *author) open() { w.scopes = append(w.scopes, nil) }

func (w *author) shut() { w.scopes = w.scopes[:len(w.scopes)-1] }

// declare adds a variable to the innermost scope, and returns its name.
func (w *author) declare(t string) string {
	last := len(w.scopes) - 1
	w.variables++
	name := pick(w.chooser, commonNames)
	known := func(v variable) bool { return v.name == name }
	if slices.ContainsFunc(w.scopes[last], known) {
		name = "v" + strconv.Itoa(w.variables)
	}
	w.scopes[last] = append(w.scopes[last], variable{name, t})
	return name
}

// visible returns the names of the visible variables of a type.
func (w *author) visible(t string) []string {
	hidden := map[string]bool{}
	var l []string
	for _, scope := range slices.Backward(w.scopes) {
		for _, v := range scope {
			if v.t == t && !hidden[v.name] {
				l = append(l, v.name)
			}
		}
		for _, v := range scope {
			hidden[v.name] = true
		}
	}
	return l
}

// words picks one of some forms, and replaces the words I, B, S, C, F and P by values of the types, L by a function literal, and block
// by statements in braces.
func (w *author) words(size int, forms ...string) string {
	var l []string
	for x := range strings.FieldsSeq(pick(w.chooser, forms)) {
		switch x {
		case "I", "B", "S", "C", "F", "P":
			x = w.value(map[string]string{"I": "int", "B": "bool", "S": "[]int", "C": "chan int", "F": "func()", "P": "*T"}[x], size-1)
		case "L":
			x = w.literal(size - 1)
		case "block":
			x = w.block(size - 1)
		}
		l = append(l, x)
	}
	return strings.Join(l, " ")
}

func (w *author) block(size int) string {
	w.open()
	text := w.statements(size)
	w.shut()
	return "{\n" + text + "}"
}

// literal writes a function literal, or what can stand for one.
func (w *author) literal(size int) string {
	if !w.literals {
		return pick(w.chooser, []string{"v", "w"})
	}
	outer := w.result
	w.result = ""
	text := "func() " + w.block(size)
	w.result = outer
	return text
}

// value writes an expression of a type that can be an operand without parentheses.
func (w *author) value(t string, size int) string {
	if l := w.visible(t); len(l) > 0 && (size <= 0 || w.below(2) == 0) {
		return pick(w.chooser, l)
	}
	switch t {
	case "int":
		return w.integer(size)
	case "bool":
		if size <= 0 {
			return pick(w.chooser, []string{"true", "false"})
		}
		return w.words(size, "( I < I )", "( I <= I )", "( I > I )", "( I >= I )", "( I == I )", "( I != I )", "( B && B )", "( B || B )", "( ! B )", "( B == B )",
			"( F == nil )", "( nil != L )", "( P != P )", "( C == C )", "( S == nil )", "( 1 < 2 )", "( true && ! false )", "( true != ( 2 <= 1 ) )", "P .b", "holds( P , B )", "at.CompareAndSwap( I , I )", "P .at.CompareAndSwap( I , I )")
	case "[]int":
		return w.words(size, "make([]int, I )", "make([]int, 3)", "P .s")
	case "chan int":
		return w.words(size, "make(chan int, I )", "make(chan int, 0)", "P .c")
	case "*T":
		if size <= 0 {
			return "new(T)"
		}
		return w.words(size, "new(T)", "P .t", "next( P )")
	}
	if w.below(3) == 0 {
		return pick(w.chooser, []string{"v", "w"})
	}
	return w.literal(size - 1)
}

func (w *author) integer(size int) string {
	if size <= 0 {
		return strconv.Itoa(w.below(3))
	}
	forms := []string{"( I + I )", "( I - I )", "( I * I )", "( I / ( I + 1 ) )", "( I % 3 )", "( - I )", "S [ I % 2 ]", "len( S )", "P .n", "P .t.n",
		"count( I , F )", "count( I , L )", "at.Add( I )", "at.Load()", "P .at.Load()", "( 5 / I )", "( 2 * 3 - 7 )", "( 1 / 2 )"}
	if !w.sequential {
		forms = append(forms, "( <- C )")
	}
	return w.words(size, forms...)
}

func (w *author) statements(size int) string {
	if size <= 0 {
		return w.assignment(pick(w.chooser, valueTypes), 0) + "\n"
	}
	text := ""
	for range w.below(4) + 1 {
		text += w.statement(size) + "\n"
	}
	return text
}

// assignment writes an assignment to a visible variable, and nothing if there is none of this type.
func (w *author) assignment(t string, size int) string {
	if l := w.visible(t); len(l) > 0 {
		return pick(w.chooser, l) + " = " + w.value(t, size-1)
	}
	return ""
}

func (w *author) statement(size int) string {
	t := pick(w.chooser, valueTypes)
	switch w.below(16) {
	case 0:
		return "var " + w.declare(t) + " " + t
	case 1:
		x := pick(w.chooser, []string{w.value(t, size-1), "nil"})
		if t == "int" || t == "bool" {
			x = w.value(t, size-1)
		}
		return "var " + w.declare(t) + " " + t + " = " + x
	case 2, 3:
		x := w.value(t, size-1)
		return w.declare(t) + " := " + x
	case 4, 5:
		return w.assignment(t, size)
	case 6:
		return w.words(size, "if B block", "if B block else block", "if B block else if B block else block", "for B block", "for B block", "block")
	case 7:
		return w.loop(size)
	case 8:
		if w.below(3) > 0 {
			return w.words(size, "print( I )", "print( B )")
		}
		if w.result != "" {
			return "if " + w.value("bool", size-1) + " { return " + w.value(w.result, size-1) + " }"
		}
		return w.words(size, "if B { return }", "return")
	case 9:
		return w.operation(size)
	case 10:
		if w.sequential {
			return w.words(size, "defer L ()", "defer F ()")
		}
		return w.communication(size)
	case 11:
		if w.sequential {
			return w.words(size, "on.Do( L )", "P .on.Do( F )")
		}
		return w.words(size, "go L ()", "go L ()", "go F ()", "go count( I , F )", "go v()", "go P .m.Lock()", "go wg.Done()", "go on.Do( L )", "go at.CompareAndSwap( I , I )", "go P .at.Add( I )")
	case 12, 13:
		return w.pair(size)
	}
	return w.words(size, "L ()", "F ()", "v()", "count( I , L )", "on.Do( F )", "P .on.Do( L )", "P .f = L", "defer L ()", "defer w()", "defer count( I , F )", "defer P .f()",
		"defer mu.Unlock()", "defer P .at.Store( I )", "defer P .on.Do( F )", "P .f()")
}

// pair writes statements with two operations that belong together.
func (w *author) pair(size int) string {
	forms := []string{"mu.Lock(); block ; mu.Unlock()", "rw.RLock(); block ; rw.RUnlock()", "rw.Lock(); block ; rw.Unlock()", "gp.m.Lock(); defer gp.m.Unlock(); block", "wg.Add(1); defer wg.Done(); block"}
	if !w.sequential {
		forms = append(forms, "wg.Add(1); go v(); go wg.Done(); block", "gc <- I ; block ; <-gc", "go L (); <-gc", "go L (); gd <- I", "close( C ); <-gc; block", "mu.Lock(); go mu.Unlock(); block ; mu.Lock()")
	}
	return w.words(size, forms...)
}

// loop writes a loop that ends after some rounds, unless something within it assigns to its variable.
func (w *author) loop(size int) string {
	w.open()
	name := w.declare("int")
	text := "{\n" + name + " := 0\nfor " + name + " < " + strconv.Itoa(w.below(3)+1) + " {\n" + name + " = " + name + " + 1\n"
	w.open()
	text += w.statements(size-1) + "}\n}"
	w.shut()
	w.shut()
	return text
}

func (w *author) operation(size int) string {
	return w.words(size, "P .n = I", "P .b = B", "P .t = P", "P .t.n = I", "P .s = S", "P .c = C", "S [ I % 2 ] = I", "S [ I ] = I", "gp = nil", "mu.Lock()", "mu.Unlock()", "rw.RLock()", "rw.RUnlock()",
		"P .rw.Lock()", "P .rw.Unlock()", "wg.Add( I )", "wg.Add(1)", "wg.Done()", "P .wg.Wait()", "wg.Wait()", "at.Store( I )", "P .at.Add( I )", "at.Load()", "at.CompareAndSwap( I , I )", "gp.m.Lock()", "gp.m.Unlock()")
}

func (w *author) communication(size int) string {
	switch w.below(5) {
	case 0:
		return w.words(size, "C <- I", "<- C", "gc <- I", "<-gc")
	case 1:
		return w.words(size, "close( C )", "gd <- I", "<-gd")
	}
	text := "select {\n"
	common := w.below(5)
	for i := range w.below(5) {
		w.open()
		if i == common {
			text += "default:\n" + w.statements(size-1)
			w.shut()
			continue
		}
		comm := w.words(size, "C <- I", "gc <- I", "<- C", "<-gd", "P .n = <- C", "S [ I ] = <-gc", "gp.n = <-gc", "", "", "")
		if comm == "" {
			x := w.value("chan int", size-1)
			comm = w.declare("int") + " := <-" + x
		}
		text += "case " + comm + ":\n" + w.statements(size-1)
		w.shut()
	}
	return text + "}"
}
