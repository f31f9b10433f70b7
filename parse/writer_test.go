package parse

import (
	"slices"
	"strconv"
	"strings"

	"interleave/api"
	"interleave/scan"
)

// writer writes the text of a tree, and returns the tree with the offsets that the chapter specifies. It chooses the layout and, if
// loose is true, parentheses that are not needed.
type writer struct {
	*chooser
	loose  bool
	text   string
	last   string // the last token
	starts []int  // the offsets of all tokens
}

// written returns a text of a file, and the file with its offsets.
func written(f api.Node, c *chooser, loose bool) (string, api.Node) {
	w := &writer{chooser: c, loose: loose}
	f.Kids = slices.Clone(f.Kids)
	for i, d := range f.Kids {
		f.Kids[i] = w.declaration(d)
		w.finish(i == len(f.Kids)-1)
	}
	w.text += pick(w.chooser, []string{"", "\n", " ", " // c", "\t//\r\n// #"})
	return w.text, f
}

// merges reports whether two tokens without anything between them are not these two tokens.
func merges(a, b string) bool {
	l, _, e := scan.Scan(a + b)
	return a != "" && (e != api.OK || len(l) != 2 || l[0].Text != a)
}

// ends reports whether a line feed behind a token inserts a semicolon.
func ends(s string) bool {
	l, _, _ := scan.Scan(s + "\n")
	return len(l) == 2
}

// put writes a token behind a layout of its own, and returns its offset.
func (w *writer) put(s string) int {
	layout := []string{"", "", "", " ", " ", "\t", "\r", " \t \r"}
	if !ends(w.last) {
		layout = append(layout, "\n", "\r\n\t", " // c\n", "\n\n //// ) { 0x\" \xff\n \n")
	}
	gap := pick(w.chooser, layout)
	if gap == "" && merges(w.last, s) {
		gap = " "
	}
	w.text += gap
	at := len(w.text)
	w.text += s
	w.last = s
	w.starts = append(w.starts, at)
	return at
}

// words writes tokens and returns the offset of the first one.
func (w *writer) words(l ...string) int {
	at := w.put(l[0])
	for _, s := range l[1:] {
		w.put(s)
	}
	return at
}

// finish writes a semicolon or a line feed that stands for one. It may write nothing if this is the last item before a brace or
// the end of the text.
func (w *writer) finish(last bool) {
	switch w.below(5) {
	case 0:
		w.put(";")
	case 1:
		if last {
			return
		}
		w.put(";")
	default:
		w.text += pick(w.chooser, []string{"\n", " \n", "\r\n", " // c\n", "\n\n\n", "\t//\n// ;\n"})
		w.last = ";"
	}
}

// lines writes items that end with semicolons, before a brace or not.
func (w *writer) lines(l []api.Node, brace bool, item func(api.Node) api.Node) []api.Node {
	l = slices.Clone(l)
	for i := range l {
		l[i] = item(l[i])
		w.finish(brace && i == len(l)-1)
	}
	return l
}

// list writes items with commas between them.
func (w *writer) list(l []api.Node, item func(api.Node) api.Node) []api.Node {
	l = slices.Clone(l)
	for i := range l {
		if i > 0 {
			w.put(",")
		}
		l[i] = item(l[i])
	}
	return l
}

func (w *writer) declaration(n api.Node) api.Node {
	switch n.Kind {
	case api.NStruct:
		n.At = w.words("type", n.Text, "struct", "{")
		n.Kids = w.lines(n.Kids, true, w.field)
		w.put("}")
	case api.NVar:
		n.At = w.words("var", n.Text)
		n.Kids = kids{w.valueType(n.Kids[0]), n.Kids[1]}
	case api.NFunc:
		n.At = w.words("func", n.Text)
		n.Kids = kids{w.params(n.Kids[0]), w.valueType(n.Kids[1]), w.block(n.Kids[2])}
	}
	return n
}

func (w *writer) params(n api.Node) api.Node {
	n.At = w.put("(")
	n.Kids = w.list(n.Kids, w.field)
	w.put(")")
	return n
}

func (w *writer) field(n api.Node) api.Node {
	n.At = w.put(n.Text)
	n.Kids = kids{w.valueType(n.Kids[0])}
	return n
}

// valueType writes a type, if there is one.
func (w *writer) valueType(n api.Node) api.Node {
	switch {
	case n.Kind == api.NNone:
	case n.Kind == api.NPointer:
		n.At = w.words("*", n.Text)
	case n.Text == "[]int":
		n.At = w.words("[", "]", "int")
	case n.Text == "chan":
		n.At = w.words("chan", "int")
	case n.Text == "func":
		n.At = w.words("func", "(", ")")
	default:
		n.At = w.put(n.Text)
	}
	return n
}

func (w *writer) block(n api.Node) api.Node {
	n.At = w.put("{")
	n.Kids = w.lines(n.Kids, true, w.statement)
	w.put("}")
	return n
}

// any writes an expression, if there is one, where any expression may stand.
func (w *writer) any(n api.Node) api.Node {
	if n.Kind == api.NNone {
		return n
	}
	return w.expression(n, 1)
}

// single writes a word and an expression in parentheses.
func (w *writer) single(word string, n api.Node) api.Node {
	n.At = w.words(word, "(")
	n.Kids = kids{w.any(n.Kids[0])}
	w.put(")")
	return n
}

func (w *writer) statement(n api.Node) api.Node {
	switch n.Kind {
	case api.NVar:
		n.At = w.words("var", n.Text)
		n.Kids = kids{w.valueType(n.Kids[0]), n.Kids[1]}
		if n.Kids[1].Kind != api.NNone {
			w.put("=")
		}
		n.Kids[1] = w.any(n.Kids[1])
	case api.NBlock:
		return w.block(n)
	case api.NGo:
		n.At = w.put("go")
		n.Kids = kids{w.expression(n.Kids[0], 7)}
	case api.NDefer:
		n.At = w.put("defer")
		n.Kids = kids{w.expression(n.Kids[0], 7)}
	case api.NClose:
		return w.single("close", n)
	case api.NPrint:
		return w.single("print", n)
	case api.NIf:
		n.At = w.put("if")
		n.Kids = kids{w.any(n.Kids[0]), w.block(n.Kids[1]), n.Kids[2]}
		if n.Kids[2].Kind != api.NNone {
			w.put("else")
			n.Kids[2] = w.statement(n.Kids[2])
		}
	case api.NFor:
		n.At = w.put("for")
		n.Kids = kids{w.any(n.Kids[0]), w.block(n.Kids[1])}
	case api.NReturn:
		n.At = w.put("return")
		n.Kids = w.list(n.Kids, w.any)
	case api.NSelect:
		n.At = w.words("select", "{")
		n.Kids = w.alternatives(n.Kids)
		w.put("}")
	default:
		return w.simple(n, w.any)
	}
	return n
}

// simple writes a statement that begins with an expression or a name. The value of a definition or an assignment is written by a
// function.
func (w *writer) simple(n api.Node, value func(api.Node) api.Node) api.Node {
	first := len(w.starts)
	switch n.Kind {
	case api.NDefine:
		n.At = w.words(n.Text, ":=")
		n.Kids = kids{value(n.Kids[0])}
	case api.NAssign:
		target := w.any(n.Kids[0])
		n.At = w.put("=")
		n.Kids = kids{target, value(n.Kids[1])}
	case api.NSend:
		channel := w.any(n.Kids[0])
		n.At = w.put("<-")
		n.Kids = kids{channel, w.any(n.Kids[1])}
	case api.NExpr:
		n.Kids = kids{w.any(n.Kids[0])}
		n.At = w.starts[first]
	}
	return n
}

func (w *writer) alternatives(l []api.Node) []api.Node {
	l = slices.Clone(l)
	for i, n := range l {
		comm, body := n.Kids[0], n.Kids[1]
		if comm.Kind == api.NNone {
			l[i].At = w.put("default")
		} else {
			l[i].At = w.put("case")
			comm = w.simple(comm, w.received)
		}
		body.At = w.put(":")
		body.Kids = w.lines(body.Kids, i == len(l)-1, w.statement)
		l[i].Kids = kids{comm, body}
	}
	return l
}

// received writes an NReceive that stands where no parentheses are possible.
func (w *writer) received(n api.Node) api.Node {
	n.At = w.put("<-")
	n.Kids = kids{w.expression(n.Kids[0], 6)}
	return n
}

// levelOf returns 1 to 5 for binary operators, 6 for other ones and 7 for primaries.
func levelOf(n api.Node) int {
	switch n.Kind {
	case api.NUnary, api.NReceive:
		return 6
	case api.NBinary:
		return map[string]int{"||": 1, "&&": 2, "+": 4, "-": 4, "*": 5, "/": 5, "%": 5, "==": 3, "!=": 3, "<": 3, "<=": 3, ">": 3, ">=": 3}[n.Text]
	}
	return 7
}

// expression writes an expression where those of a level and of higher ones may stand without parentheses.
func (w *writer) expression(n api.Node, least int) api.Node {
	level := levelOf(n)
	switch {
	case level < least || w.loose && w.below(4) == 0:
		w.put("(")
		n = w.any(n)
		w.put(")")
		return n
	case n.Kind == api.NBinary:
		left := w.expression(n.Kids[0], level)
		n.At = w.put(n.Text)
		n.Kids = kids{left, w.expression(n.Kids[1], level+1)}
		return n
	case n.Kind == api.NUnary:
		n.At = w.put(n.Text)
		n.Kids = kids{w.expression(n.Kids[0], 6)}
		return n
	case n.Kind == api.NReceive:
		return w.received(n)
	}
	return w.primary(n)
}

func (w *writer) primary(n api.Node) api.Node {
	switch n.Kind {
	case api.NMember:
		n.Kids = kids{w.expression(n.Kids[0], 7)}
		n.At = w.words(".", n.Text)
	case api.NIndex:
		x := w.expression(n.Kids[0], 7)
		n.At = w.put("[")
		n.Kids = kids{x, w.any(n.Kids[1])}
		w.put("]")
	case api.NCall:
		x := w.expression(n.Kids[0], 7)
		n.At = w.put("(")
		n.Kids = append(kids{x}, w.list(n.Kids[1:], w.any)...)
		w.put(")")
	case api.NSlice:
		n.At = w.words("make", "(", "[", "]", "int", ",")
		n.Kids = kids{w.any(n.Kids[0])}
		w.put(")")
	case api.NChan:
		n.At = w.words("make", "(", "chan", "int", ",")
		n.Kids = kids{w.any(n.Kids[0])}
		w.put(")")
	case api.NLen:
		return w.single("len", n)
	case api.NNew:
		n.At = w.words("new", "(", n.Text, ")")
	case api.NLiteral:
		n.At = w.words("func", "(", ")")
		n.Kids = kids{w.block(n.Kids[0])}
	case api.NInt:
		n.At = w.put(strconv.Itoa(n.Num))
	case api.NBool:
		n.At = w.put(strconv.FormatBool(n.Num == 1))
	case api.NNil:
		n.At = w.put("nil")
	case api.NName:
		n.At = w.put(n.Text)
	}
	return n
}

// same reports whether two trees are the same in all fields.
func same(a, b api.Node) bool {
	fields := a.Kind == b.Kind && a.Text == b.Text && a.Num == b.Num && a.At == b.At && a.Type == b.Type && a.Ref == b.Ref && a.Up == b.Up
	return fields && slices.EqualFunc(a.Kids, b.Kids, same)
}

// show writes a tree as it appears in messages: kinds, texts, numbers and offsets.
func show(n api.Node) string {
	s := kindNames[max(0, min(n.Kind, len(kindNames)-1))]
	if n.Text != "" {
		s += " " + n.Text
	}
	if n.Num != 0 {
		s += " #" + strconv.Itoa(n.Num)
	}
	if n.Kind != api.NNone {
		s += "@" + strconv.Itoa(n.At)
	}
	var l []string
	for _, k := range n.Kids {
		l = append(l, show(k))
	}
	if len(l) == 0 {
		return s
	}
	return s + "(" + strings.Join(l, ", ") + ")"
}

var kindNames = strings.Fields("? file struct field func params var type pointer none block define assign expr go defer send close if for return print select case int bool nil name member index call unary binary receive new slice chan len literal")
