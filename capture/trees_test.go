package capture

import (
	"slices"
	"strconv"
	"strings"
	"testing"

	"interleave/api"
	"interleave/check"
	"interleave/parse"
	"interleave/syntax"
	"interleave/types"
)

// annotated returns the annotated file of a text.
func annotated(t *testing.T, s string) api.Node {
	t.Helper()
	f, at, e := parse.Parse(s)
	if e != api.OK {
		t.Fatalf("%s\n%d %v", s, at, e)
	}
	return accepted(t, f)
}

// accepted returns the annotated file of a file.
func accepted(t *testing.T, f api.Node) api.Node {
	t.Helper()
	n, at, e := check.Check(f)
	if e != api.OK {
		t.Fatalf("%.2000s\n%d %v", syntax.Print(f), at, e)
	}
	return n
}

// functions returns the functions of a tree, in preorder.
func functions(n api.Node) []api.Node {
	var l []api.Node
	for k := range syntax.Walk(n) {
		if k.Kind == api.NFunc || k.Kind == api.NLiteral {
			l = append(l, k)
		}
	}
	return l
}

// same reports whether two trees are the same in all fields.
func same(a, b api.Node) bool {
	fields := a.Kind == b.Kind && a.Text == b.Text && a.Num == b.Num && a.At == b.At && a.Type == b.Type && a.Ref == b.Ref && a.Up == b.Up
	return fields && slices.EqualFunc(a.Kids, b.Kids, same)
}

// showLocals writes variables as they appear in the tables, for example "a int param boxed, b []int".
func showLocals(l []api.Local) string {
	var words []string
	for _, v := range l {
		s := v.Name + " " + types.Text(v.Type)
		if v.Param {
			s += " param"
		}
		if v.Boxed {
			s += " boxed"
		}
		words = append(words, s)
	}
	return strings.Join(words, ", ")
}

// showCaptures writes captured variables as they appear in the tables, for example "1.0 2.3".
func showCaptures(l []api.Capture) string {
	var words []string
	for _, c := range l {
		words = append(words, strconv.Itoa(c.Up)+"."+strconv.Itoa(c.Num))
	}
	return strings.Join(words, " ")
}

// checkResults requires the results for a node.
func checkResults(t *testing.T, n api.Node, locals []api.Local, captures []api.Capture, literals []api.Node) {
	t.Helper()
	if got := Locals(n); !slices.Equal(got, locals) {
		t.Errorf("%d@%d: locals %s, want %s", n.Kind, n.At, showLocals(got), showLocals(locals))
	}
	if got := Captures(n); !slices.Equal(got, captures) {
		t.Errorf("%d@%d: captures %s, want %s", n.Kind, n.At, showCaptures(got), showCaptures(captures))
	}
	if got := Literals(n); !slices.EqualFunc(got, literals, same) {
		t.Errorf("%d@%d: %d literals, want %d", n.Kind, n.At, len(got), len(literals))
	}
}

// checkNothing requires empty lists for a node.
func checkNothing(t *testing.T, n api.Node) {
	t.Helper()
	checkResults(t, n, nil, nil, nil)
}

// chooser makes choices that are the same in every run.
type chooser struct{ state uint64 }

// below returns a number from 0 to n-1.
func (c *chooser) below(n int) int {
	c.state = c.state*6364136223846793005 + 1442695040888963407
	return int(c.state>>33) % n
}

func pick[T any](c *chooser, l []T) T { return l[c.below(len(l))] }
