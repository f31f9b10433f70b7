package fold

import (
	"math"
	"slices"
	"strings"
	"testing"

	"interleave/api"
	"interleave/syntax"
)

// checkFold requires the folded file of two texts.
func checkFold(t *testing.T, s, want string) {
	t.Helper()
	if n := File(parsed(t, s)); !syntax.Equal(n, parsed(t, want)) {
		t.Errorf("%s\n%s\nwant %s", s, syntax.Print(n), want)
	}
}

// checkBodies requires folded statements: each row is "STATEMENTS => STATEMENTS", or "STATEMENTS =" if they stay as they are.
func checkBodies(t *testing.T, rows string) {
	t.Helper()
	for row := range strings.SplitSeq(strings.TrimSpace(rows), "\n") {
		s, want, changes := strings.Cut(row, " => ")
		if !changes {
			s = strings.TrimSuffix(strings.TrimSpace(row), " =")
			want = s
		}
		checkFold(t, "func f() { "+s+" }", "func f() { "+want+" }")
	}
}

// P7.1: what replaces expressions.
func TestExpressions(t *testing.T) {
	checkBodies(t, `
x = 1 =
x = 0 =
x = true =
x = -1 =
x = -9223372036854775807 =
x = -0 => x = 0
x = -(-1) => x = 1
x = --1 => x = 1
x = ---1 => x = -1
x = -(-0) => x = 0
x = !true => x = false
x = !!true => x = true
x = 2 * 3 + y => x = 6 + y
x = y + 2 * 3 => x = y + 6
x = y + 2 + 3 =
x = 2 + 3 + y => x = 5 + y
x = 2 + (3 + y) =
x = 1 - 3 => x = -2
x = 0 - 9223372036854775807 => x = -9223372036854775807
x = 9223372036854775807 + 2 => x = -9223372036854775807
x = 7 / 2 => x = 3
x = -7 / 2 => x = -3
x = -7 % 2 => x = -1
x = 1 / 0 =
x = 1 % 0 =
x = 1 / (2 - 2) => x = 1 / 0
x = (1 + 1) % (0 * 5) => x = 2 % 0
x = 1 / 0 + -(-1) => x = (1 / 0) + 1
x = -(1 / 0) =
x = 1 < 2 => x = true
x = 2 <= 1 => x = false
x = 1 == 2 => x = false
x = true != false => x = true
x = true == false => x = false
x = 1 < 2 && b => x = true && b
x = b || 2 < 1 => x = b || false
x = true || false => x = true
x = true && 1 == 2 => x = false
x = !(1 < 2) => x = false
x = !(b && 1 < 2) => x = !(b && true)
x = nil == nil =
x = y == y =
x = 0 * y =
x = -true =
x = !1 =
x = !(1 + 1) => x = !2
x = -(1 < 2) => x = -true
x = 1 + 1 == true => x = 2 == true
x = (1 < 2) + (1 + 2) => x = true + 3
x = 1 + 1 && 2 + 2 => x = 2 && 4
x = (1 < 2) < (2 < 1) => x = true < false
`)
}

// P7.1: expressions whose value is the least integer, for which there is no literal.
func TestLeastInteger(t *testing.T) {
	checkBodies(t, `
x = -9223372036854775807 - 1 =
x = -9223372036854775807 - (3 - 2) => x = -9223372036854775807 - 1
x = 9223372036854775807 + 1 =
x = (9223372036854775806 + 1) + (2 - 1) => x = 9223372036854775807 + 1
x = 4611686018427387904 * 2 =
x = -4611686018427387904 * (1 + 1) => x = -4611686018427387904 * 2
x = -(-9223372036854775807 - (1 + 0)) => x = -(-9223372036854775807 - 1)
x = (-9223372036854775807 - 1) / -1 =
x = (-9223372036854775807 - 1) / (0 - 1) => x = (-9223372036854775807 - 1) / -1
x = (-9223372036854775807 - 1) % -1 => x = 0
x = (-9223372036854775807 - 1) - 0 * 3 => x = (-9223372036854775807 - 1) - 0
x = -9223372036854775807 - 1 - 1 => x = 9223372036854775807
x = -9223372036854775807 - 1 + 1 => x = -9223372036854775807
x = (-9223372036854775807 - 1) * 2 => x = 0
x = (-9223372036854775807 - 1) < 0 => x = true
x = -9223372036854775807 - 1 + y =
x = y * (9223372036854775807 + (3 - 2)) => x = y * (9223372036854775807 + 1)
if 9223372036854775807 + 1 { g() } else { h() } => { h() }
if 9223372036854775807 + (3 - 2) { g() } => { }
`)
}

// P7.1: the branches of statements with a constant condition.
func TestConditions(t *testing.T) {
	checkBodies(t, `
if true { g() } => { g() }
if false { g() } => { }
if true { g() } else { h() } => { g() }
if false { g() } else { h() } => { h() }
if 1 < 2 { g() } else { h() } => { g() }
if !(1 < 2) { g() } else { h() } => { h() }
if false || false { g() } => { }
if true { } => { }
if false { } => { }
if true { print(1 + 1) } => { print(2) }
if false { } else { print(1 + 1) } => { print(2) }
if true { } else { print(1 / 0) } => { }
if x { print(1 + 1) } else { print(2 + 2) } => if x { print(2) } else { print(4) }
if x == 1 + 1 { } => if x == 2 { }
if true && x { g() } =
if false && x { g() } =
if true || x { g() } =
if x { } else if true { g() } => if x { } else { g() }
if x { } else if false { g() } => if x { } else { }
if x { } else if false { g() } else { h() } => if x { } else { h() }
if x { } else if y { } else if true { g() } else { h() } => if x { } else if y { } else { g() }
if x { } else if y { } else if false { g() } => if x { } else if y { } else { }
if x { } else if false { } else if y { g() } => if x { } else if y { g() }
if true { g() } else if x { h() } => { g() }
if true { g() } else if true { h() } => { g() }
if false { g() } else if x { h() } => if x { h() }
if false { g() } else if x { h() } else { k() } => if x { h() } else { k() }
if false { } else if false { } else if x { h() } => if x { h() }
if false { } else if false { } else if false { h() } => { }
if false { } else if false { } else if true { h() } => { h() }
if false { } else if x { } else if true { print(1 + 1) } => if x { } else { print(2) }
if true { if true { g() } } => { { g() } }
if true { if false { g() } else { h() } } else { } => { { h() } }
if x { if true { g() } } => if x { { g() } }
if x { if false { g() } } else { if true { } else { h() } } => if x { { } } else { { } }
if true { x := 1 }; x = 2 => { x := 1 }; x = 2
{ if true { } } => { { } }
for true { if true { g() } } => for true { { g() } }
`)
}

// P7.1: conditions of any constants: only the value 1 chooses the first branch.
func TestIntegerConditions(t *testing.T) {
	checkBodies(t, `
if 1 { g() } else { h() } => { g() }
if 0 { g() } else { h() } => { h() }
if 2 { g() } else { h() } => { h() }
if -1 { g() } else { h() } => { h() }
if 2 { g() } => { }
if 3 - 2 { g() } else { h() } => { g() }
if -(-1) { g() } else { h() } => { g() }
if 1 - 1 { g() } else { h() } => { h() }
if 9223372036854775807 { g() } else { h() } => { h() }
if 1 / 0 { g() } else { h() } =
if nil { g() } else { h() } =
if !1 { g() } else { h() } =
if x { } else if 1 { g() } else { h() } => if x { } else { g() }
if x { } else if 7 { g() } => if x { } else { }
`)
}

// P7.1: the children of all statements and expressions are folded.
func TestPlaces(t *testing.T) {
	checkBodies(t, `
var x int = 1 + 1 => var x int = 2
var x int; var y *T; x := 1 + 1 => var x int; var y *T; x := 2
x = 1 + 1 => x = 2
1 + 1 = x => 2 = x
-(-1) = -(-2) => 1 = 2
s[1 + 1] = 2 * 2 => s[2] = 4
(1 + 1).x = 3 => 2.x = 3
f(1 + 1, 2, -(-3)) => f(2, 2, 3)
(1 + 1)(2 + 2) => 2(4)
(-(-1))() => 1()
p.f(1 + 1) => p.f(2)
(1 - 2).f(1 + 1) => (-1).f(2)
<-(1 + 1) => <-2
x = <-c =
x = <-(2 - 2) => x = <-0
go f(1 + 1) => go f(2)
defer f(1 + 1) => defer f(2)
c <- 1 + 1 => c <- 2
1 + 1 <- 2 + 2 => 2 <- 4
close(1 + 1) => close(2)
print(1 + 1) => print(2)
for { print(1 + 1) } => for { print(2) }
for 1 == 1 { print(1 + 1) } => for true { print(2) }
for 1 > 1 { g() } => for false { g() }
for false { g() } =
for x < 1 + 1 { } => for x < 2 { }
return 1 + 1 => return 2
return =
{ { print(1 + 1) } } => { { print(2) } }
x = (1 + 1).y => x = 2.y
x = (1 + 1)[2 + 2] => x = 2[4]
x = s[-(-1)] => x = s[1]
x = make([]int, 2 * 3) => x = make([]int, 6)
x = make(chan int, 1 - 1) => x = make(chan int, 0)
x = len(1 + 1) => x = len(2)
x = f(f(1 + 1)) => x = f(f(2))
x = new(T) =
x = nil =
x = func() { print(1 + 1); if true { g() } } => x = func() { print(2); { g() } }
func() { if false { } else if x { } }() => func() { if x { } }()
go func() { c <- 1 + 1 }() => go func() { c <- 2 }()
f(func() { func() { print(1 + 1) }() }, 2 + 2) => f(func() { func() { print(2) }() }, 4)
select { } =
select { default: } =
select { default: print(1 + 1) } => select { default: print(2) }
select { case c <- 1 + 1: if true { } } => select { case c <- 2: { } }
select { case <-(1 + 1): print(1 + 1); case x = <-(2 + 2): case 1 + 1 = <-c: case x := <-(-(-1)): } => select { case <-2: print(2); case x = <-4: case 2 = <-c: case x := <-1: }
select { case s[1 + 1] = <-c: case 1 + 1 <- 2 + 2: for 1 < 2 { } } => select { case s[2] = <-c: case 2 <- 4: for true { } }
`)
}

// P7.1: declarations, of which functions contain statements.
func TestDeclarations(t *testing.T) {
	for _, s := range []string{"", "var x int", "type T struct { }", "type T struct { a int; b *T; c []int }\nvar x *T", "func f() { }", "func f(a int, b *T) chan int { }"} {
		checkFold(t, s, s)
	}
	checkFold(t, "type T struct { a int }; func f(a int) int { return a + 2 * 3 }; var x *T; func g(b bool) *T { if true { return nil } else { return x } }",
		"type T struct { a int }; func f(a int) int { return a + 6 }; var x *T; func g(b bool) *T { { return nil } }")
}

// P7.1: the nodes that replace an expression have its offset, and all others their own. (The offset of a binary expression is that of
// its operator.)
func TestOffsets(t *testing.T) {
	at := func(at int, n api.Node) api.Node {
		n.At = at
		return n
	}
	for s, want := range map[string]api.Node{
		"5":                              digits(5),
		"1 + 2":                          at(2, digits(3)),
		"7 - (2 - 1)":                    at(2, digits(6)),
		"1 - 3":                          at(2, minus(at(2, digits(2)))),
		"-5":                             minus(digits(5)),
		"-(2 + 3)":                       minus(digits(5)),
		"--5":                            digits(5),
		"1 < 2":                          at(2, truth(1)),
		"!true":                          truth(0),
		"y + 2 * 3":                      at(2, op("+", name("y"), at(6, digits(6)))),
		"y + (2 - 4)":                    at(2, op("+", name("y"), at(7, minus(at(7, digits(2)))))),
		"y || 2 < 1":                     at(2, op("||", name("y"), at(7, truth(0)))),
		"y && !true":                     at(2, op("&&", name("y"), at(5, truth(0)))),
		"-9223372036854775807 - (3 - 2)": at(21, op("-", minus(digits(math.MaxInt)), at(26, digits(1)))),
	} {
		got := File(fileOf(bare(api.NPrint, expression(t, s))))
		if !same(got, fileOf(bare(api.NPrint, want))) {
			t.Errorf("%s: %s, want %s", s, show(got), show(want))
		}
	}
}

// P7.1: a branch keeps its offset; the block without statements has that of its statement.
func TestOffsetsOfBranches(t *testing.T) {
	for _, x := range []struct {
		n    api.Node
		path []int // from the statement to the node whose offset the result has
	}{
		{branch(truth(1), block(), none()), []int{1}},
		{branch(truth(0), block(), none()), nil},
		{branch(truth(0), block(), block()), []int{2}},
		{branch(digits(1), block(), block()), []int{1}},
		{branch(digits(2), block(), none()), nil},
		{branch(truth(0), block(), branch(truth(1), block(), none())), []int{2, 1}},
		{branch(truth(0), block(), branch(truth(0), block(), none())), []int{2}},
		{branch(truth(0), block(), branch(truth(0), block(), block())), []int{2, 2}},
	} {
		n := numbered(fileOf(x.n))
		place := n.Kids[0].Kids[2].Kids[0]
		for _, i := range x.path {
			place = place.Kids[i]
		}
		got := File(n).Kids[0].Kids[2].Kids[0]
		if !same(got, api.Node{Kind: api.NBlock, At: place.At}) {
			t.Errorf("%s: %s", show(n), show(got))
		}
	}
	f := numbered(fileOf(branch(name("x"), block(), branch(truth(0), block(), none()))))
	old := f.Kids[0].Kids[2].Kids[0].Kids[2]
	if got := File(f).Kids[0].Kids[2].Kids[0].Kids[2]; !same(got, api.Node{Kind: api.NBlock, At: old.At}) {
		t.Error(show(got))
	}
}

// P7.1: the fields that have no meaning in layer 3 are 0, in all kinds of nodes.
func TestBareFields(t *testing.T) {
	seen := map[int]bool{}
	for _, f := range files(200, 5) {
		for n := range syntax.Walk(File(numbered(f))) {
			seen[n.Kind] = true
			if n.Type != (api.Type{}) || n.Ref != 0 || n.Up != 0 || n.Num != 0 && n.Kind != api.NInt && n.Kind != api.NBool {
				t.Fatal(n)
			}
		}
	}
	if len(seen) != api.NLiteral {
		t.Error(len(seen))
	}
}

// P7.1: trees that are no files.
func TestNoFiles(t *testing.T) {
	bad := kids{{}, digits(1), block(), name("x"), bare(api.NFile, digits(1)), bare(api.NFile, api.Node{}), function(nil), {Kind: api.NFile, Text: "x"}, {Kind: -1}, {Kind: math.MaxInt}}
	for _, n := range nearly() {
		bad = append(bad, n, fileOf(bare(api.NPrint, n)), fileOf(branch(n, block(), none())), fileOf(n), fileOf(branch(truth(1), block(), n)), fileOf(branch(truth(1), block(), block(bare(api.NPrint, n)))))
		bad = append(bad, fileOf(branch(truth(1), block(), block(bare(api.NPrint, op("+", digits(1), n))))), fileOf(bare(api.NPrint, op("+", n, digits(1)))))
	}
	bad = append(bad, fileOf(branch(truth(1), none(), block())), fileOf(bare(api.NIf, truth(1), block())), fileOf(branch(none(), block(), none())), fileOf(none()), fileOf(digits(1)))
	for _, n := range bad {
		if got := File(n); !same(got, api.Node{}) {
			t.Errorf("%s: %s", show(n), show(got))
		}
	}
}

// checkFile requires what the reference says of a tree, and reports whether it is a file.
func checkFile(t *testing.T, f api.Node) bool {
	t.Helper()
	want := specifiedFile(f)
	if got := File(f); !same(got, want) {
		t.Fatalf("%s\n%s\n%s\nwant %s\n%s", syntax.Print(f), syntax.Print(got), show(got), syntax.Print(want), show(want))
	}
	return want.Kind == api.NFile
}

// P7.1: random files, and random files with changed nodes.
func TestRandomFiles(t *testing.T) {
	c := &chooser{state: 5}
	counts, seen := map[bool]int{}, map[int]int{}
	for _, f := range slices.Concat(files(300, 3), files(300, 5), files(100, 7)) {
		f = numbered(f)
		checkFile(t, f)
		for n := range syntax.Walk(f) {
			seen[n.Kind]++
		}
		for range 5 {
			f = changed(f, c)
			counts[checkFile(t, f)]++
		}
	}
	if counts[true] < 500 || counts[false] < 500 {
		t.Error(counts)
	}
	for kind := api.NFile; kind <= api.NLiteral; kind++ {
		if seen[kind] < 30 {
			t.Error(kind, seen[kind])
		}
	}
}

// The examples of the chapter.
func TestExamples(t *testing.T) {
	checkBodies(t, `
y = 2 * 3 + x => y = 6 + x
y = 1 - 3 => y = -2
y = 1 / 0 =
y = -(-1) => y = 1
y = 1 < 2 && b => y = true && b
if 1 < 2 { a() } else { b() } => { a() }
if false { a() } => { }
`)
}
