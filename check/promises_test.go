package check

import (
	"slices"
	"strconv"
	"strings"
	"testing"

	"interleave/api"
	"interleave/syntax"
)

// checkSpecified requires the specified result for a file, and returns the rule that is violated.
func checkSpecified(t *testing.T, f api.Node) string {
	t.Helper()
	f = numbered(f)
	want, wantAt, wanted, rule := specified(f)
	n, at, e := Check(f)
	if at != wantAt || e != wanted || !same(n, want) {
		t.Fatalf("%s\n%d %v %.200s, want %d %v %.200s (%s)", syntax.Print(f), at, e, show(n), wantAt, wanted, show(want), rule)
	}
	return rule
}

// P6.1: files that follow the rules have the specified annotations.
func TestPrograms(t *testing.T) {
	seen := map[int]int{}
	for _, size := range []int{2, 4, 6} {
		for _, f := range programs(300, size) {
			if rule := checkSpecified(t, f); rule != "" {
				t.Fatalf("%s\n%s", syntax.Print(f), rule)
			}
			for n := range syntax.Walk(f) {
				seen[n.Kind]++
			}
		}
	}
	for kind := api.NFile; kind <= api.NLiteral; kind++ {
		if seen[kind] < 50 {
			t.Error(kind, seen[kind])
		}
	}
}

// rules are the rules of the chapter, as the second checker calls them.
const rules = "declarations,NStruct name,NStruct type pointer,NVar pointer,main,main type,NFunc parameter,NFunc parameter pointer,NFunc parameter type,NFunc result pointer,NFunc result type,NFunc terminates," +
	"local NVar pointer,local NVar type,local NVar assignable,local NVar name,NDefine value,NDefine name,NAssign target,NAssign assignable,NSend channel kind,NSend value kind,NClose kind,NPrint kind,condition kind," +
	"NReturn,NReturn assignable,NSelect default,NName,NName type,NMember kind,NMember field,NMember type,NIndex slice kind,NIndex index kind,NUnary - kind,NUnary ! kind,NBinary,NReceive kind,NLen kind,NSlice kind," +
	"NChan kind,NNew,NCall number,NCall assignable,NCall method,NCall callee kind"

// P6.1: files with changes have the specified errors. All rules are among those that are violated first.
func TestChangedPrograms(t *testing.T) {
	c := &chooser{}
	seen := map[string]int{}
	for _, size := range []int{2, 3, 4} {
		for _, f := range programs(300, size) {
			for range 12 {
				seen[checkSpecified(t, changes(f, c))]++
			}
		}
	}
	for _, rule := range append(strings.Split(rules, ","), "") {
		if seen[rule] < 10 {
			t.Error(rule, seen[rule])
		}
		delete(seen, rule)
	}
	if len(seen) > 0 {
		t.Error(seen)
	}
}

// files returns files of which about the half follows the rules.
func files(count, size int) []api.Node {
	c := &chooser{state: 7}
	l := programs(count, size)
	for _, f := range l[:count/2] {
		l = append(l, changes(f, c))
	}
	return l
}

// P6.2: the annotated file equals the argument, and its own annotated file is the same.
func TestChecksAgain(t *testing.T) {
	for _, f := range files(300, 4) {
		f = numbered(f)
		n, _, e := Check(f)
		if e != api.OK {
			continue
		}
		if !syntax.Equal(n, f) || !syntax.Valid(n) {
			t.Fatalf("%s: %.500s", syntax.Print(f), show(n))
		}
		if again := accepted(t, n); !same(again, n) {
			t.Fatalf("%s: %.500s, want %.500s", syntax.Print(f), show(again), show(n))
		}
	}
}

// P6.1: the annotations of the argument have no influence.
func TestAnnotatedArguments(t *testing.T) {
	for _, f := range files(200, 4) {
		f = numbered(f)
		stripped := unmarked(f)
		n, at, e := Check(f)
		other, otherAt, others := Check(stripped)
		if at != otherAt || e != others || !same(n, other) {
			t.Fatalf("%s: %d %v, want %d %v", syntax.Print(f), at, e, otherAt, others)
		}
	}
}

// unmarked returns a tree without annotations, but with its offsets.
func unmarked(n api.Node) api.Node {
	bare := syntax.Strip(n)
	bare.At = n.At
	for i, k := range n.Kids {
		bare.Kids[i] = unmarked(k)
	}
	return bare
}

// unused are declarations of a variable that does not occur elsewhere.
var unused = []api.Node{
	texted(api.NVar, "unused", typed("int"), none()),
	texted(api.NVar, "unused", texted(api.NPointer, "T"), bare(api.NNil)),
	texted(api.NDefine, "unused", api.Node{Kind: api.NInt, Num: 1}),
	texted(api.NDefine, "unused", bare(api.NLiteral, bare(api.NBlock))),
}

// extended returns a tree with a statement at the beginning of its block number at.
func extended(n api.Node, statement api.Node, at *int) api.Node {
	l := make(kids, 0, len(n.Kids)+1)
	if n.Kind == api.NBlock {
		if *at == 0 {
			l = append(l, statement)
		}
		*at--
	}
	for _, k := range n.Kids {
		l = append(l, extended(k, statement, at))
	}
	n.Kids = l
	return n
}

// P6.3: a variable that is not used, at the beginning of any block, does not change whether a file is accepted. Because only the
// new nodes have other offsets, the error is the same, too.
func TestUnusedVariables(t *testing.T) {
	for i, f := range files(160, 4) {
		if !hasStruct(f) {
			continue
		}
		f = numbered(f)
		_, at, e := Check(f)
		blocks := 0
		for n := range syntax.Walk(f) {
			if n.Kind == api.NBlock {
				blocks++
			}
		}
		for k := range blocks {
			place := k
			n := extended(f, unused[(i+k)%len(unused)], &place)
			if _, gotAt, got := Check(n); gotAt != at || got != e {
				t.Fatalf("%s: %d %v, want %d %v", syntax.Print(n), gotAt, got, at, e)
			}
		}
	}
}

// hasStruct reports whether a file has the struct to which pointers of unused refer.
func hasStruct(f api.Node) bool {
	return slices.ContainsFunc(f.Kids, func(n api.Node) bool { return n.Kind == api.NStruct && n.Text == "T" })
}

// P6.3: in the file with one name in the place of another one, for all local variables of this name, only the names differ.
func TestRenaming(t *testing.T) {
	for _, f := range files(200, 4) {
		f = numbered(f)
		n, at, e := Check(f)
		j := newJudge(f)
		for _, from := range append(localNames, "x1", "b") {
			got, gotAt, result := Check(j.renamed(j.file, from, "fresh"))
			if e == api.OK {
				n := j.withNames(j.file, n, from, "fresh")
				if gotAt != 0 || result != api.OK || !same(got, n) {
					t.Fatalf("%s with %s renamed: %d %v", syntax.Print(f), from, gotAt, result)
				}
			} else if gotAt != at || result != e || !isZero(got) {
				t.Fatalf("%s with %s renamed: %d %v, want %d %v", syntax.Print(f), from, gotAt, result, at, e)
			}
		}
	}
}

// occurs reports whether x is an occurrence of a name as a local variable.
func (j *judge) occurs(x *item, name string) bool {
	if x.Text != name {
		return false
	}
	return isLocal(x) || x.Kind == api.NName && j.denoted(x) != nil && isLocal(j.denoted(x))
}

// renamed returns the tree with another name for local variables.
func (j *judge) renamed(x *item, from, to string) api.Node { return j.withNames(x, x.Node, from, to) }

// withNames returns a tree that differs from that of x only in its annotations, with another name for local variables.
func (j *judge) withNames(x *item, n api.Node, from, to string) api.Node {
	if j.occurs(x, from) {
		n.Text = to
	}
	n.Kids = slices.Clone(n.Kids)
	for i, k := range x.kids {
		n.Kids[i] = j.withNames(k, n.Kids[i], from, to)
	}
	return n
}

// P6.4: two declarations of an accepted file can be exchanged.
func TestExchange(t *testing.T) {
	for _, f := range programs(60, 3) {
		f = numbered(f)
		accepted(t, f)
		for i := range f.Kids {
			for k := range i {
				n := f
				n.Kids = slices.Clone(f.Kids)
				n.Kids[i], n.Kids[k] = n.Kids[k], n.Kids[i]
				accepted(t, n)
			}
		}
	}
}

// The examples of the chapter.
func TestExamples(t *testing.T) {
	checkRejected(t, parsed(t, "func main() { x = 1 }"), 14, api.ErrName)
	checkRejected(t, parsed(t, "func main() { x := nil }"), 19, api.ErrType)
	checkRejected(t, parsed(t, "func main() { x := 1; x := 2 }"), 22, api.ErrDuplicate)
	checkRejected(t, parsed(t, "func f() { }"), 0, api.ErrName)
}

// Programs as they occur in practice.
func TestPractice(t *testing.T) {
	for _, s := range []string{
		"var x int\nfunc main() {\ngo func() { x = 1 }()\nx = 2\n}",
		"type C struct {\n\tm mutex\n\tn int\n}\n\nvar c *C\n\nfunc add(k int) bool {\n\tc.m.Lock()\n\tdefer c.m.Unlock()\n\tif c.n+k >= 10 || !(k != 0) {\n\t\treturn false\n\t}\n\tc.n = c.n + k*2%7\n\treturn true\n}\nfunc main() {\n\tc = new(C)\n\tgo add(1)\n\tprint(add(2))\n}\n",
		"var g group; var l []int\nfunc main() { g.Add(2); l = make([]int, 2); i := 0\n\tfor i < 2 { go fill(i); i = i + 1 }; g.Wait()\n}\nfunc fill(k int) { var n int = -(k + 1) * 3; l[k] = n; g.Done() }\n",
		"func main() {\n\tch := make(chan int, 1)\n\tselect {\n\tcase ch <- 1:\n\tcase v := <-ch:\n\t\tprint(v)\n\tdefault:\n\t}\n\tclose(ch)\n}\n",
		"var o once; var a atomic; func main() { done := make(chan int, 0); i := 0; for i < 3 { go func() { o.Do(func() { a.Store(5) }); done <- a.Load() }(); i = i + 1 }; for i > 0 { print(<-done); i = i - 1 } }",
	} {
		accepted(t, parsed(t, s))
		checkSpecified(t, parsed(t, s))
	}
}

// overwrite changes all nodes of a tree, and the spare capacity of its lists of children.
func overwrite(n api.Node) {
	for i := range n.Kids {
		overwrite(n.Kids[i])
	}
	l := n.Kids[:cap(n.Kids)]
	for i := range l {
		l[i] = api.Node{Kind: api.NInt, Num: 13}
	}
}

// copied returns a tree whose lists of children have spare capacity.
func copied(n api.Node) api.Node {
	n.Kids = slices.Grow(slices.Clone(n.Kids), 2)
	for i, k := range n.Kids {
		n.Kids[i] = copied(k)
	}
	for i := range n.Kids[len(n.Kids):cap(n.Kids)] {
		n.Kids[:cap(n.Kids)][len(n.Kids)+i] = name("spare")
	}
	return n
}

// intact reports whether the spare capacity of a tree is as copied made it.
func intact(n api.Node) bool {
	for _, k := range n.Kids[len(n.Kids):cap(n.Kids)] {
		if !same(k, name("spare")) {
			return false
		}
	}
	return !slices.ContainsFunc(n.Kids, func(k api.Node) bool { return !intact(k) })
}

// Rules 5 to 7: arguments do not change, results depend on nothing else, they are new memory, and no two lists of one result share any.
func TestMemory(t *testing.T) {
	for _, f := range files(80, 4) {
		f = numbered(f)
		argument := copied(f)
		first, at, e := Check(argument)
		if !same(argument, f) || !intact(argument) {
			t.Fatalf("%s is changed", syntax.Print(f))
		}
		second, againAt, again := Check(f)
		if at != againAt || e != again || !same(first, second) {
			t.Fatalf("%s: %d %v and %d %v", syntax.Print(f), at, e, againAt, again)
		}
		overwrite(argument)
		if !same(first, second) {
			t.Fatalf("the result for %s shares memory with the argument", syntax.Print(f))
		}
		overwrite(first)
		if n, _, _ := Check(f); !same(n, second) {
			t.Fatalf("results for %s share memory", syntax.Print(f))
		}
		checkSeparate(t, second)
	}
}

// checkSeparate requires that no list of children of a tree shares memory with another one.
func checkSeparate(t *testing.T, n api.Node) {
	t.Helper()
	known := map[*api.Node]bool{}
	for x := range syntax.Walk(n) {
		l := x.Kids[:cap(x.Kids)]
		for i := range l {
			if known[&l[i]] {
				t.Fatalf("shared: %s", show(x))
			}
			known[&l[i]] = true
		}
	}
}

// P1: no call panics, whatever its argument is, and every call ends, also where nodes contain themselves or others twice.
func TestTotality(t *testing.T) {
	c := &chooser{}
	for _, f := range programs(200, 3) {
		for range 40 {
			n := f
			for range 1 + c.below(6) {
				n = changed(n, c)
			}
			if n.Kids = slices.Clone(n.Kids); len(n.Kids) > 0 && c.below(4) == 0 {
				n.Kids[0].Kind = c.below(45) - 2
			}
			got, at, e := Check(n)
			if want, wantAt, wanted, _ := specified(n); at != wantAt || e != wanted || !same(got, want) {
				t.Fatalf("%s: %d %v, want %d %v", show(n), at, e, wantAt, wanted)
			}
		}
	}
	for kind := -2; kind <= api.NLiteral+2; kind++ {
		round := make(kids, 2)
		round[0] = api.Node{Kind: kind, Kids: round}
		round[1] = api.Node{Kind: api.NBlock, Kids: round}
		for _, n := range []api.Node{round[0], bare(api.NFile, round...), within(round[0]), within(bare(api.NExpr, bare(api.NCall, round...)))} {
			checkRejected(t, n, 0, api.ErrArg)
		}
	}
	n := bare(api.NBlock)
	for range 100000 {
		n = bare(api.NBlock, n)
	}
	checkRejected(t, within(n), 0, api.ErrArg)
}

// P1 and P6.1: files that are much larger than the trees of texts, with many declarations, statements, variables and arguments.
func TestLargeFiles(t *testing.T) {
	f := parsed(t, "type T struct { m mutex }; func t() *T { return nil }; func main() { { y := t(); y.m.Lock(); func() { y = nil }() } }")
	for i := range 3000 {
		s := "v" + strconv.Itoa(i)
		f.Kids = append(f.Kids, texted(api.NVar, s, texted(api.NPointer, "T"), none()))
	}
	main := f.Kids[2].Kids[2]
	main.Kids = slices.Repeat(main.Kids, 3000)
	for i := range 2000 {
		main.Kids = append(main.Kids, texted(api.NDefine, "x"+strconv.Itoa(i), name("v"+strconv.Itoa(i))))
	}
	f.Kids[2].Kids[2] = main
	params := bare(api.NParams)
	call := bare(api.NCall, name("wide"))
	for i := range 2000 {
		params.Kids = append(params.Kids, texted(api.NField, "p"+strconv.Itoa(i), typed("bool")))
		call.Kids = append(call.Kids, api.Node{Kind: api.NBool})
	}
	f.Kids = append(f.Kids, texted(api.NFunc, "wide", params, none(), bare(api.NBlock, bare(api.NExpr, call))))
	n := accepted(t, f)
	last := n.Kids[2].Kids[2].Kids[4999]
	if last.Num != 4999 || last.Kids[0].Num != 1999 || last.Ref != api.RefLocal || last.Kids[0].Ref != api.RefGlobal {
		t.Error(label(last), label(last.Kids[0]))
	}
	call.Kids[2000].Kind, call.Kids[2000].At = api.NInt, 7
	checkRejected(t, f, 7, api.ErrType)
}
