package parse

import (
	"slices"
	"strings"
	"testing"

	"interleave/api"
	"interleave/scan"
	"interleave/syntax"
)

// programs are texts as they occur in practice.
func programs() []string {
	return []string{
		"var x int\nfunc main() {\ngo func() { x = 1 }()\nx = 2\n}",
		"// a counter\ntype C struct {\n\tm mutex // guards n\n\tn int\n}\n\nvar c *C\n\nfunc add(k int) bool {\n\tc.m.Lock()\n\tdefer c.m.Unlock()\n\tif c.n+k >= 10 || !(k != 0) {\n\t\treturn false\n\t}\n\tc.n = c.n + k*2%7\n\treturn true\n}\n",
		"func main() {\r\n\tch := make(chan int, 1)\r\n\tselect {\r\n\tcase ch <- 9223372036854775807:\r\n\tcase v := <-ch: // received\r\n\t\tprint(v)\r\n\tdefault:\r\n\t}\r\n}\r\n",
		"func f(a []int,b *T)int{return a[0]/len(a)-b.x}//end",
		"var g group; var l []int\nfunc main() { g.Add(2); l = make([]int, 2)\n\tfor i < 2 { go fill(i); i = i + 1 }; g.Wait()\n\tif l == nil { close(c) } else if true { <-c } else { (f)() }\n}\nfunc fill(k int) { var n int = -(k + 1) * 3; l[k] = n; g.Done(); x.p = new(T) }\n",
	}
}

// P4.1: files have the specified trees and offsets, in any layout, with and without parentheses that are not needed.
func TestTrees(t *testing.T) {
	c := &chooser{}
	seen := map[int]int{}
	for _, size := range []int{3, 6, 9} {
		for i, f := range files(400, size) {
			s, want := written(f, c, i%2 == 0)
			if n := accepted(t, s); !same(n, want) {
				t.Fatalf("%q: %s, want %s", s, show(n), show(want))
			}
			for n := range syntax.Walk(f) {
				seen[n.Kind]++
			}
		}
	}
	for kind := api.NFile; kind <= api.NLiteral; kind++ {
		if seen[kind] < 20 {
			t.Error(kind, seen[kind])
		}
	}
}

// checkCanonical requires P4.2 of a file.
func checkCanonical(t *testing.T, f api.Node) {
	t.Helper()
	s := syntax.Print(f)
	if len(s) > api.MaxText {
		checkAnswer(t, s, 0, api.ErrLimit)
		return
	}
	if n := accepted(t, s); !syntax.Equal(n, f) || !syntax.Valid(n) {
		t.Fatalf("%q: %s, want %s", s, show(n), show(f))
	}
}

// P4.2: the text of a file is accepted, and its tree equals the file, which has up to 50 levels.
func TestCanonicalTexts(t *testing.T) {
	for _, size := range []int{2, 4, 7, 10, 14} {
		for _, f := range files(200, size) {
			checkCanonical(t, f)
		}
	}
	x, none := texted(api.NName, "x"), bare(api.NNone)
	for _, wrap := range []func(api.Node) api.Node{
		func(n api.Node) api.Node { return texted(api.NUnary, "-", n) },
		func(n api.Node) api.Node { return texted(api.NBinary, "-", n, x) },
		func(n api.Node) api.Node { return texted(api.NBinary, "-", x, n) },
		func(n api.Node) api.Node { return bare(api.NReceive, n) },
		func(n api.Node) api.Node { return bare(api.NIndex, n, n) },
		func(n api.Node) api.Node { return bare(api.NCall, x, x, n) },
	} {
		n := x
		for levels(n) < 46 && syntax.Count(n) < 1000 {
			n = wrap(n)
			body := bare(api.NBlock, bare(api.NReturn, n))
			checkCanonical(t, bare(api.NFile, texted(api.NFunc, "f", bare(api.NParams), none, body)))
		}
	}
	wide := bare(api.NFile)
	for range 1819 {
		wide.Kids = append(wide.Kids, texted(api.NVar, "x1", texted(api.NType, "int"), none))
	}
	checkCanonical(t, wide)
	wide.Kids[0].Text = "x"
	wide.Kids[1].Text = "xx10"
	checkCanonical(t, wide)
	checkCanonical(t, bare(api.NFile, wide.Kids[:1818]...))
}

// P4.2: the trees of accepted texts are files, and their canonical texts have the same trees.
func TestCanonicalTrees(t *testing.T) {
	c := &chooser{}
	for _, f := range files(100, 6) {
		s, _ := written(f, c, true)
		for _, text := range []string{s, strings.ReplaceAll(s, "<", ">"), strings.ReplaceAll(s, "-", "!"), strings.ReplaceAll(s, "x", "y[1]")} {
			n, _, e := Parse(text)
			if e == api.OK {
				checkCanonical(t, n)
			}
		}
	}
	for _, s := range programs() {
		checkCanonical(t, accepted(t, s))
	}
}

// P4.3: every layout of a file has the same tree.
func TestLayouts(t *testing.T) {
	c := &chooser{}
	for _, f := range files(100, 6) {
		for i := range 6 {
			s, _ := written(f, c, i%2 == 0)
			if n := accepted(t, s); !syntax.Equal(n, f) {
				t.Fatalf("%q: %s", s, show(n))
			}
		}
	}
}

// inserted returns s with a text at an offset.
func inserted(s string, at int, text string) string { return s[:at] + text + s[at:] }

// P4.3: blanks, tabs and carriage returns between any two tokens, and comments at the end of any line.
func TestInsertedLayout(t *testing.T) {
	for _, s := range programs() {
		want := accepted(t, s)
		l, _, _ := scan.Scan(s)
		for _, x := range append(l, api.Token{At: len(s)}) {
			for _, layout := range []string{" ", "\t", "\r", " \t\r\r "} {
				if n := accepted(t, inserted(s, x.At, layout)); !syntax.Equal(n, want) {
					t.Errorf("%q at %d: %s", s, x.At, show(n))
				}
			}
		}
		for _, comment := range []string{"//", " // c", "\t// } # \" 1x ;\xff", " //// (\r"} {
			if n := accepted(t, strings.ReplaceAll(s, "\n", comment+"\n")+comment); !syntax.Equal(n, want) {
				t.Errorf("%q with %q: %s", s, comment, show(n))
			}
		}
	}
}

// P4.3: parentheses around any name, number or constant that is an operand.
func TestInsertedParentheses(t *testing.T) {
	for _, s := range programs() {
		want := accepted(t, s)
		for n := range syntax.Walk(want) {
			if !slices.Contains([]int{api.NName, api.NInt, api.NBool, api.NNil}, n.Kind) {
				continue
			}
			end := n.At
			for end < len(s) && strings.Contains("abcdefghijklmnopqrstuvwxyz0123456789", s[end:end+1]) {
				end++
			}
			for _, p := range [][2]string{{"(", ")"}, {"( ((", ") ))"}, {" (\n", "\t)"}} {
				text := s[:n.At] + p[0] + s[n.At:end] + p[1] + s[end:]
				if got := accepted(t, text); !syntax.Equal(got, want) {
					t.Errorf("%q: %s", text, show(got))
				}
			}
		}
	}
}

// P4.4: an error of syntax at a token does not depend on what follows behind the line of the token.
func TestErrorsStay(t *testing.T) {
	c := &chooser{}
	checked := 0
	for _, f := range files(20, 4) {
		s, _ := written(f, c, true)
		l, _, _ := scan.Scan(s)
		for i := range l {
			for _, changed := range changes(s, l, i, c) {
				_, at, e := Parse(changed)
				list, _, scanned := scan.Scan(changed)
				k := slices.IndexFunc(list, func(x api.Token) bool { return x.At == at })
				if e != api.ErrSyntax || scanned != api.OK || k < 0 {
					continue
				}
				end := at + len(list[k].Text)
				for _, rest := range []string{"", "}", "x\n\n", "// c", "func f() { }\n", ";;((", "else { } }", changed[:at], changed[end:], s} {
					if text := changed[:end] + "\n" + rest; scans(text) {
						checkAnswer(t, text, at, api.ErrSyntax)
						checked++
					}
				}
			}
		}
	}
	if checked < 10000 {
		t.Error(checked)
	}
}

// scans reports whether layer 2 accepts a text.
func scans(s string) bool {
	_, _, e := scan.Scan(s)
	return e == api.OK
}

// checkConcatenation requires P4.5 of two texts.
func checkConcatenation(t *testing.T, a, b string) {
	t.Helper()
	want := accepted(t, a)
	want.Kids = append(slices.Clone(want.Kids), shifted(accepted(t, b), len(a)).Kids...)
	if n := accepted(t, a+b); !same(n, want) {
		t.Errorf("%.200q and %.200q: %.200s, want %.200s", a, b, show(n), show(want))
	}
}

// P4.5: the declarations of a concatenation are those of its parts, if the first one ends with a line feed.
func TestConcatenation(t *testing.T) {
	texts := []string{"", "\n", "// c", "var x int", "var x int;", "var x int // c", "var x []int\n\n", "type T struct { }", "func f() { }; ", "func f(a chan int) func() { return }"}
	c := &chooser{}
	for i, f := range files(60, 3) {
		s, _ := written(f, c, i%2 == 0)
		texts = append(texts, s)
	}
	texts = append(texts, programs()...)
	for _, a := range texts {
		for _, b := range texts {
			checkConcatenation(t, a+"\n", b)
			if strings.HasSuffix(a, "\n") {
				checkConcatenation(t, a, b)
			}
		}
	}
}

// P4.5: parts that have 20000 bytes together, and one more; and parts with 50 levels.
func TestLargeConcatenation(t *testing.T) {
	for _, count := range []int{1, 999, 1998} {
		a, b := strings.Repeat("var x int\n", count), strings.Repeat("var y *xy\n", 2000-count)
		checkConcatenation(t, a, b)
		checkAnswer(t, a+b+" ", 0, api.ErrLimit)
	}
	deep := "func f() { x = " + strings.Repeat("-", 45) + "1 }\n"
	checkConcatenation(t, deep, deep)
	if levels(accepted(t, deep)) != 50 {
		t.Error(levels(accepted(t, deep)))
	}
}

// P1: no call panics, whatever its argument is. Errors come without a tree, and with an offset in the text.
func TestTotality(t *testing.T) {
	c := &chooser{}
	for i := range 10000 {
		var b strings.Builder
		for range c.below(40) {
			switch i % 3 {
			case 0:
				b.WriteString(pick(c, vocabulary))
			case 1:
				b.WriteString(pick(c, vocabulary) + pick(c, []string{" ", "\n", ""}))
			default:
				b.WriteByte(byte(c.below(256)))
			}
		}
		for _, s := range []string{b.String(), "func f() {" + b.String()} {
			n, at, e := Parse(s)
			wantAt, want := specified(s)
			if e != want || at != wantAt || (e == api.OK) != syntax.Valid(n) || e != api.OK && !same(n, api.Node{}) {
				t.Fatalf("%q: %d %v %s, want %d %v", s, at, e, show(n), wantAt, want)
			}
		}
	}
	checkAnswer(t, strings.Repeat("\xff", 1<<20), 0, api.ErrLimit)
	checkAnswer(t, strings.Repeat("var x int\n", 1<<17), 0, api.ErrLimit)
}

// P1: as many levels as a text can have, unfinished, wrong and finished.
func TestNesting(t *testing.T) {
	for _, x := range []struct{ open, middle, close string }{
		{"(", "x", ")"}, {"{", "", "}"}, {"-", "x", ""}, {"<-", "x", ""}, {"x[", "x", "]"}, {"x(", "x", ")"}, {"x+", "x", ""}, {"x-(", "x", ")"}, {"x.", "x", ""}, {"", "x", "()"},
		{"if x{", "", "}"}, {"if x{}else ", "{}", ""}, {"for{", "", "}"}, {"func(){", "", "}()"}, {"select{default:", "", "}"}, {"len(", "x", ")"}, {"make(chan int,", "x", ")"}, {"x(x,", "x", ")"},
	} {
		for _, before := range []string{"func f(){", "func f(){x="} {
			count := (20000 - len(before) - 10) / len(x.open+x.close)
			opened := before + strings.Repeat(x.open, count) + x.middle
			for _, s := range []string{opened, opened + "}", opened + strings.Repeat(x.close, count), opened + strings.Repeat(x.close, count) + "}"} {
				n, at, e := Parse(s)
				if at < 0 || at > len(s) || e != api.ErrSyntax && at != 0 || (e == api.OK) != syntax.Valid(n) || e != api.OK && !same(n, api.Node{}) {
					t.Errorf("%.40q: %d %v", s, at, e)
				}
			}
		}
	}
}

// overwrite changes all nodes of a tree, and the spare capacity of its lists of children.
func overwrite(n api.Node) {
	for i := range n.Kids {
		overwrite(n.Kids[i])
	}
	l := n.Kids[:cap(n.Kids)]
	for i := range l {
		l[i] = api.Node{Kind: api.NInt, Num: 13}
	}
}

// Rules 5 to 7: results depend only on the text, they are new memory, and no two lists of one result share any.
func TestNewMemory(t *testing.T) {
	c := &chooser{}
	for _, f := range files(60, 6) {
		s, want := written(f, c, true)
		first, second := accepted(t, s), accepted(t, s)
		overwrite(first)
		if !same(second, want) || !same(accepted(t, s), want) {
			t.Fatalf("%q: %s", s, show(second))
		}
		checkSeparate(t, second)
	}
}

// checkSeparate requires that no list of children of a tree shares memory with another one.
func checkSeparate(t *testing.T, n api.Node) {
	t.Helper()
	known := map[*api.Node]bool{}
	for x := range syntax.Walk(n) {
		l := x.Kids[:cap(x.Kids)]
		for i := range l {
			if known[&l[i]] {
				t.Fatalf("shared: %s", show(x))
			}
			known[&l[i]] = true
		}
	}
}
