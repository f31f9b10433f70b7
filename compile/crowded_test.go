package compile

import (
	"slices"
	"strconv"
	"strings"
	"testing"

	"interleave/api"
	"interleave/code"
	"interleave/parse"
	"interleave/syntax"
)

// crowd writes programs whose function literals capture very many variables, so that few registers remain.
type crowd struct {
	*chooser
	names  int
	levels int  // of functions with variables of their own
	stops  bool // whether there are statements behind which nothing is executed
}

const crowdHead = `type T struct { n int; on once; t *T }
var x int; var y int; var b bool; var s []int; var c chan int; var at atomic; var on once; var p *T; var h func()
func g(f func()) int { if x < 3 { x = x + 1; f() }; return x }
func m(f func()) chan int { f(); return c }
func both(f func(), l func(), j int) bool { f(); l(); print(j); return x < 2 }
func between(i int, f func(), j int) int { f(); return i + j }
func many(a0 int, a1 int, a2 int, a3 int, a4 int, a5 int, a6 int, a7 int, a8 int, f func()) int { f(); return a0 + a8 * a3 }
func ten(a0 int, a1 int, a2 int, a3 int, a4 int, a5 int, a6 int, a7 int, a8 int, a9 int) { print(a1 + a7) }
`

// crowdForms are statements with function literals L and integer variables V.
const crowdForms = `L () ; go L () ; defer L () ; h = L ; h = L ~ h() ; x = g( L ) ; print(x + g( L )) ; at.Add(g( L )) ; on.Do( L ) ; p.on.Do( L )
go on.Do( L ) ; defer p.on.Do( L ) ; if b { L () } ; if x < 2 { L () } else { L () } ; x = many(x, y, x, 1, 2, V , V , V , y, L )
both( L , L , x) ; b = both( L , L , V ) && both( L , nil, V ) ; b = b || both( L , nil, x) ; s[g( L )] = x ; s[x] = g( L ) ; p.n = g( L )
c <- g( L ) ; select { case c <- g( L ): } ; select { case c <- x: x = y ~ case c <- g( L ): y = 2 ~ default: L () }
select { case z := <-m( L ): print(z + V ) ~ case <-m( L ): } ; select { case x = <-m( L ): default: }
for x < 2 { x = x + 1 ~ L () } ; for V < 3 { V = V + 1 ~ L () ~ L () } ; between(x, L , between(y, L , V )) ; x = between(x + y, L , x * V )
defer both( L , nil, x) ; go both( L , L , x) ; { z := V ~ L () ~ print(z) } ; V = g( L ) ; V = V + g( L ) ; return`

func (w *crowd) program() string {
	w.names, w.levels = 0, 3+w.below(2)
	return crowdHead + "func main() {\np = new(T); p.t = p; s = make([]int, 3); c = make(chan int, 2)\n" + w.body(1, nil) + "}\n"
}

// body writes the statements of a function; visible are the variables of the functions around it.
func (w *crowd) body(level int, visible []string) string {
	var own []string
	text := ""
	for range pick(w.chooser, []int{0, 3, 12, 17, 18, 19, 20, 20}) {
		w.names++
		own = append(own, "v"+strconv.Itoa(w.names))
		text += own[len(own)-1] + " := " + pick(w.chooser, []string{"1", "2", "x"}) + "\n"
	}
	all := slices.Concat(visible, own)
	for range pick(w.chooser, []int{1, 1, 1, 2, 3}) {
		text += w.stop()
		text += w.statement(level, pick(w.chooser, [][]string{all, all, visible}), own)
	}
	if w.below(3) == 0 {
		text += w.uses(w.some(own))
	}
	return text
}

// stop writes a statement behind which nothing is executed, or only in some runs, or nothing.
func (w *crowd) stop() string {
	if !w.stops || w.below(3) > 0 {
		return ""
	}
	return pick(w.chooser, []string{"return\n", "return\n", "for { }\n", "select { }\n", "{ return }\n", "if x < 2 { return } else { return }\n",
		"if b { for { } } else if x < 2 { return } else { return }\n", "if x < 2 { return }\n", "for b { return }\n", "select { case <-c: return; default: return }\n"})
}

func (w *crowd) statement(level int, visible, own []string) string {
	forms := strings.FieldsFunc(crowdForms, func(r rune) bool { return r == ';' || r == '\n' })
	var l []string
	for x := range strings.FieldsSeq(pick(w.chooser, forms)) {
		switch x {
		case "L":
			x = w.literal(level, visible)
		case "V":
			x = pick(w.chooser, slices.Concat([]string{"y"}, own, visible[:min(len(visible), 5)]))
		case "~":
			x = ";"
		}
		l = append(l, x)
	}
	return strings.Join(l, " ") + "\n"
}

func (w *crowd) literal(level int, visible []string) string {
	if level < w.levels && w.below(4) > 0 {
		return "func() {\n" + w.body(level+1, visible) + "}"
	}
	return "func() {\n" + w.uses(w.some(visible)) + "}"
}

// some returns some of the names, in some order.
func (w *crowd) some(names []string) []string {
	switch w.below(6) {
	case 0:
		return names[w.below(len(names)+1):]
	case 1:
		return names[:w.below(len(names)+1)]
	case 2:
		l := slices.Clone(names)
		for i := range l {
			k := w.below(i + 1)
			l[i], l[k] = l[k], l[i]
		}
		return l
	}
	return names
}

// uses uses variables in few nodes.
func (w *crowd) uses(names []string) string {
	text := ""
	for len(names) >= 10 {
		text += "ten(" + strings.Join(names[:10], ", ") + ")\n"
		names = names[10:]
	}
	for ; len(names) > 1; names = names[2:] {
		text += names[0] + " = " + names[1] + "\n"
	}
	return text
}

// isCrowded reports whether a function of a file needs to be squeezed.
func isCrowded(f api.Node) bool {
	t := newTables(&f)
	return slices.ContainsFunc(t.functions, func(fn function) bool { return !fits(generate(t, fn)) })
}

// P11.1, P11.2 and P11.4: moderate files in which few registers remain are accepted, but for very few in which a literal and the
// operands around it need more than there are. They do what their trees specify, and names do not matter.
func TestCrowdedFiles(t *testing.T) {
	w := &crowd{chooser: &chooser{state: 53}}
	seen := counts{}
	for range 1500 {
		f, _, e := parse.Parse(w.program())
		if e != api.OK || !measured(f).isModerate() {
			continue
		}
		f = annotated(t, f)
		p, e := Compile(f)
		switch {
		case e != api.OK:
			seen["rejected"]++
			continue
		case !isCrowded(f):
			continue
		}
		seen["crowded"]++
		if !code.Valid(p) || !code.Equal(p, accepted(t, changedNames(f, false))) {
			t.Fatal(syntax.Print(f))
		}
		a, b := compiled(p), walked(newTree(f))
		if d := run(a, b, w.chooser, seen, memoryDifference, budgetDifference); d != "" {
			t.Fatalf("%s\n%s", syntax.Print(f), d)
		}
		b.stop()
	}
	if seen["crowded"] < 100 || seen["rejected"] > 3 {
		t.Error(seen)
	}
	checkSeen(t, seen, 10, "end", "closure", "go", "goc", "select", "once", "print")
}
