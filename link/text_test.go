package link

import (
	"slices"
	"strconv"
	"strings"

	"interleave/api"
)

// operations are the words of the operations, in the order of their numbers.
var operations = strings.Fields("? const nil move add sub mul div rem neg not eq ne lt le len jump jumpz global field index new slice chan closure cap call callc defer deferc return go goc " +
	"load store aload astore aadd acas lock unlock rlock runlock group wait once onceend send recv close select case print")

// number reads a number.
func number(s string) int {
	n, e := strconv.Atoi(s)
	if e != nil {
		panic(e)
	}
	return n
}

// kindsIn reads a layout such as "[01]".
func kindsIn(s string) []int {
	var l []int
	for _, c := range strings.Trim(s, "[]") {
		l = append(l, int(c-'0'))
	}
	return l
}

// part reads a part. Its declarations are separated by semicolons: "global x 0", "layout [01]", "import g 1", which says that g has one
// parameter, "func f 1 3: call -1 g 2, return 0", which says that f has one parameter and three registers, and "main f". Functions and
// global variables have names in the code, and layouts are written out; operands that are missing are 0.
func part(text string) api.Program {
	p := api.Program{Main: -1}
	var code []string
	main := ""
	for declaration := range strings.SplitSeq(text, ";") {
		head, body, _ := strings.Cut(declaration, ":")
		w := strings.Fields(head)
		if len(w) == 0 {
			continue
		}
		switch w[0] {
		case "global":
			p.Globals = append(p.Globals, api.Global{Name: w[1], Kind: number(w[2])})
		case "layout":
			p.Layouts = append(p.Layouts, kindsIn(w[1]))
		case "import":
			p.Funcs = append(p.Funcs, api.Func{Name: w[1], Params: number(w[2]), Regs: number(w[2])})
			code = append(code, "")
		case "func":
			p.Funcs = append(p.Funcs, api.Func{Name: w[1], Params: number(w[2]), Regs: number(w[3])})
			code = append(code, body)
		case "main":
			main = w[1]
		default:
			panic(declaration)
		}
	}
	if main != "" {
		p.Main = funcWith(p, main)
	}
	for i, body := range code {
		p.Funcs[i].Code = instrsIn(p, body)
	}
	return p
}

// parts reads parts that are separated by vertical lines.
func parts(text string) []api.Program {
	var l []api.Program
	for s := range strings.SplitSeq(text, "|") {
		l = append(l, part(s))
	}
	return l
}

func funcWith(p api.Program, name string) int {
	return slices.IndexFunc(p.Funcs, func(f api.Func) bool { return f.Name == name })
}

func globalWith(p api.Program, name string) int {
	return slices.IndexFunc(p.Globals, func(g api.Global) bool { return g.Name == name })
}

func layoutLike(p api.Program, kinds []int) int {
	return slices.IndexFunc(p.Layouts, func(l []int) bool { return slices.Equal(l, kinds) })
}

// instrsIn reads the code of a function, separated by commas.
func instrsIn(p api.Program, text string) []api.Instr {
	var l []api.Instr
	for s := range strings.SplitSeq(text, ",") {
		w := strings.Fields(s)
		if len(w) == 0 {
			continue
		}
		in := api.Instr{Op: slices.Index(operations, w[0])}
		for i, x := range w[1:] {
			operand := []*int{&in.A, &in.B, &in.C, &in.At}[i]
			switch {
			case i == 1 && (in.Op == api.OpCall || in.Op == api.OpGo || in.Op == api.OpDefer || in.Op == api.OpClosure):
				*operand = funcWith(p, x)
			case i == 1 && in.Op == api.OpGlobal:
				*operand = globalWith(p, x)
			case i == 1 && in.Op == api.OpNew:
				*operand = layoutLike(p, kindsIn(x))
			default:
				*operand = number(x)
			}
		}
		l = append(l, in)
	}
	return l
}

// The following functions write what part reads. Equal layouts look the same.

func showGlobal(g api.Global) string { return "global " + g.Name + " " + strconv.Itoa(g.Kind) }

func showKinds(l []int) string {
	s := ""
	for _, kind := range l {
		s += strconv.Itoa(kind)
	}
	return "[" + s + "]"
}

func showLayout(l []int) string { return "layout " + showKinds(l) }

func showFunc(p api.Program, f api.Func) string {
	if len(f.Code) == 0 && f.Params == f.Regs {
		return "import " + f.Name + " " + strconv.Itoa(f.Params)
	}
	var l []string
	for _, in := range f.Code {
		l = append(l, showInstr(p, in))
	}
	return "func " + f.Name + " " + strconv.Itoa(f.Params) + " " + strconv.Itoa(f.Regs) + ": " + strings.Join(l, ", ")
}

func showInstr(p api.Program, in api.Instr) string {
	b := strconv.Itoa(in.B)
	switch in.Op {
	case api.OpCall, api.OpGo, api.OpDefer, api.OpClosure:
		if in.B < len(p.Funcs) {
			b = p.Funcs[in.B].Name
		}
	case api.OpGlobal:
		b = p.Globals[in.B].Name
	case api.OpNew:
		b = showKinds(p.Layouts[in.B])
	}
	return strings.Join([]string{operations[in.Op], strconv.Itoa(in.A), b, strconv.Itoa(in.C), strconv.Itoa(in.At)}, " ")
}

// show writes a part.
func show(p api.Program) string {
	var l []string
	for _, g := range p.Globals {
		l = append(l, showGlobal(g))
	}
	for _, kinds := range p.Layouts {
		l = append(l, showLayout(kinds))
	}
	for _, f := range p.Funcs {
		l = append(l, showFunc(p, f))
	}
	if p.Main >= 0 {
		l = append(l, "main "+p.Funcs[p.Main].Name)
	}
	return strings.Join(l, "; ")
}

// showAll writes parts.
func showAll(l []api.Program) string {
	var all []string
	for _, p := range l {
		all = append(all, show(p))
	}
	return strings.Join(all, " |\n")
}
