package parse

import (
	"strconv"
	"strings"
	"testing"

	"interleave/api"
	"interleave/scan"
	"interleave/syntax"
)

// checkAnswer requires an error of s, with its offset and without a tree.
func checkAnswer(t *testing.T, s string, wantAt int, want api.Errno) {
	t.Helper()
	if n, at, e := Parse(s); e != want || at != wantAt || !same(n, api.Node{}) {
		t.Errorf("%.200q: %d %v %.100s, want %d %v", s, at, e, show(n), wantAt, want)
	}
}

// checkError requires an error of syntax at the place that ^ marks in s, also according to the grammar.
func checkError(t *testing.T, s string) {
	t.Helper()
	before, after, _ := strings.Cut(s, "^")
	if at, e := specified(before + after); e != api.ErrSyntax || at != len(before) {
		t.Errorf("%q: %d %v by the grammar", s, at, e)
	}
	checkAnswer(t, before+after, len(before), api.ErrSyntax)
}

// checkErrors requires errors where ^ marks them in texts, each of which is on a line, with a text before it.
func checkErrors(t *testing.T, before, lines string) {
	t.Helper()
	for _, s := range strings.Split(strings.TrimSpace(lines), "\n") {
		checkError(t, before+strings.ReplaceAll(s, `\n`, "\n"))
	}
}

const declarationErrors = `
^x
^1
^return
^(
^{ }
^struct
^x := 1
var x int;^;
var x int;\n^;
var x int\n\n^}
var x int ^var y int
func f() { } ^var x int
func f() { } ^func f() { }
func f() { } ^{ }
type T struct { } ^type T struct { }
type^
type ^struct { }
type ^int struct { }
type T^
type T ^int
type T ^T
type T^\nstruct { }
type T struct^
type T struct ^;
type T struct {^
type T struct { ^;
type T struct { a^
type T struct { a ^}
type T struct { a^\n}
type T struct { a ^T }
type T struct { a^, b int }
type T struct { a int^
type T struct { a int ^b int }
type T struct { a int^, b int }
type T struct { a int; ^; }
type T struct { a int;^
type T struct { a int ^= 1 }
type T struct { ^1 }
type T struct { ^func }
type T struct { ^*T }
var^
var ^int
var ^1 int
var ^var
var x^
var x^\n
var x ^y
var x ^1
var x ^= 1
var x int ^= 1
var x^, y int
var ^(x int)
func^
func ^() { }
func ^1() { }
func ^if() { }
func f^
func f ^{ }
func f(^
func f(^,
func f(^int) { }
func f(^1 int) { }
func f(a^
func f(a^)
func f(a^, b int)
func f(a int^
func f(a int^; b int)
func f(a int ^b int)
func f(a int,^
func f(a int, ^) { }
func f(a int, ^, b int) { }
func f(a int^\n)
func f(a int)^
func f(a int)^\n{ }
func f() ^x { }
func f() ^(int) { }
func f() int^
func f() int^\n{ }
func f() int ^int { }
func f() {^
func f() { } ^}
`

// P4.1: errors in declarations.
func TestDeclarationErrors(t *testing.T) { checkErrors(t, "", declarationErrors) }

const statementErrors = `
^; }
^) }
^= x }
^:= x }
^else { }
^case x: }
^default: }
^type T struct { }
^int }
^chan }
^struct { }
^+x }
^*p = x }
f();^;
f();\n^; }
f()\n\n^; }
{ } ^{ } }
{ ^; } }
{^
{ }^
{ ^) }
var^
var x^
var x ^= 1 }
var x ^1 }
var x int^
var x int ^:= 1 }
var x int ^f() }
var x int =^
var x int = ^}
var x int = 1 ^= 2 }
var x int = 1^, 2 }
var ^go int }
x^
x ^}
x^; }
x^\n}
x ^y }
x ^1 }
x ^{ } }
x^, y = 1, 2 }
x :=^
x := ^}
x :=^; }
x := 1 ^:= 2 }
x := 1 ^= 2 }
x := 1^, 2 }
x := 1 ^<- 2 }
x.y ^:= 1 }
x[1] ^:= 1 }
(x) ^:= 1 }
(x ^:= 1) }
1 ^:= 1 }
-x ^:= 1 }
x + y ^:= 1 }
x =^
x = ^}
x = ^= y }
x = 1 ^= 2 }
x = 1 ^:= 2 }
x = 1 ^<- 2 }
x = 1 ^2 }
x = ^var }
c <-^
c <- ^}
c <- 1 ^<- 2 }
c <- 1 ^= 2 }
c <- x ^:= 2 }
x + 1 ^}
x + f() ^}
f() + x ^}
f() + g()^; }
-f() ^}
!<-c ^}
<-c + 1 ^}
<-c == <-c^\n}
(x) ^}
(f() + 1) ^}
(-f()) ^}
f().x ^}
f()[1] ^}
f ^}
x.y^; }
x[1] ^}
nil ^}
true ^}
1 ^}
new(T) ^}
make(chan int, 1) ^}
make([]int, 1)^; }
len(x) ^}
func() { } ^}
f() ^f() }
f() ^x = 1 }
f() ^go f() }
<-c ^1 }
<-c ^f() }
go^
go ^}
go x^
go x ^}
go x^; }
go x ^= 1 }
go x ^:= 1 }
go f() ^= 1 }
go f() ^+ 1 }
go f() ^<- 1 }
go ^-f() }
go ^!f() }
go ^<-c }
go (-f()) ^}
go (<-c) ^}
go (x) ^}
go (f() + g()) ^}
go f().x ^}
go f()[1]^\n}
go a ^+ b() }
go f() ^g() }
go func() { } ^}
go func() { }^\n() }
go ^go f() }
go ^{ } }
go len(x) ^}
go ^close(c) }
go ^print(1) }
defer^
defer x^
defer x ^}
defer ^<-c }
defer f() ^== g() }
defer f().x ^}
defer new(T) ^}
defer ^close(c) }
close^
close ^x }
close(^
close(^)
close(x^
close(x^, y)
close(x) ^= 1 }
close(x)^.y = 1 }
close(x) ^(1) }
close(x) ^f() }
close(x ^:= 1) }
close(x^\n) }
print^
print ^1 }
print(^) }
print(1^
print(1^; 2) }
print(1^, 2) }
print(1) ^+ 1 }
print(1)^[1] = 2 }
print(1) ^<- 2 }
print(1) ^print(2) }
print(^print(1)) }
print(^{ }) }
`

// P4.1: errors in statements.
func TestStatementErrors(t *testing.T) { checkErrors(t, "func f() { ", statementErrors) }

const blockErrors = `
if^
if ^{ } }
if ^; a { } }
if a^
if a^; { } }
if a^\n{ } }
if a ^}
if a ^b { } }
if a ^f() }
if a ^:= b { } }
if a ^= b { } }
if a^; b { } }
if a {^
if a { }^
if a { } ^f() }
if a { } ^if b { } }
if a { }; ^else { } }
if a { }\n^else { } }
if a { }\n\n// c\n^else if b { } }
if a { } else^
if a { } else ^b }
if a { } else ^}
if a { } else ^f() }
if a { } else ^for { } }
if a { } else ^else { } }
if a { } else ^return }
if a { } else if^
if a { } else if ^{ } }
if a { } else if b ^else { } }
if a { } else { } ^else { } }
if a { } else { }\n^else { } }
if a { } else if b { } else ^c }
if a { } else if b { } else { } ^else { } }
if a { } else { } ^f() }
if func() { } ^}
for^
for ^}
for ^; { } }
for {^
for { }^
for { } ^f() }
for { } ^else { } }
for a^
for a ^}
for a^\n{ } }
for a^; b; c { } }
for a ^:= 1 { } }
for a ^= 1 { } }
for a ^b { } }
for ^var a int { } }
for func() { } ^}
return^
return ^) }
return ^else }
return ^= 1 }
return ^:= 1 }
return ^return }
return ^{ } }
return ^var x int }
return ^go f() }
return 1^
return 1 ^2 }
return 1^, 2 }
return 1 ^= 2 }
return 1 ^<- 2 }
return x ^:= 2 }
return\n^; }
return -^}
`

// P4.1: errors in statements with blocks.
func TestBlockErrors(t *testing.T) { checkErrors(t, "func f() { ", blockErrors) }

const selectErrors = `
^}
^; { } }
^x { } }
^case x: }
{^
{ ^; }
{ ^x }
{ ^f() }
{ ^return }
{ ^{ } }
{ case^
{ case ^: }
{ case ^}
{ case ^default: }
{ case ^case <-c: }
{ case ^var x int }
{ case ^return: }
{ case ^go f(): }
{ case ^print(1): }
{ case ^{ }: }
{ case x^
{ case x^: }
{ case x^; }
{ case x ^y: }
{ case f()^: }
{ case (f())^: }
{ case -<-c^: }
{ case <-c + 1^: }
{ case <-c == <-d^: }
{ case (<-c + 1)^: }
{ case (<-c).d^: }
{ case <-c^
{ case <-c ^}
{ case <-c^; }
{ case <-c^\n: }
{ case <-c ^f(): }
{ case <-c^, <-d: }
{ case c <-^
{ case c <- ^: }
{ case c <- 1^
{ case c <- 1 ^}
{ case c <- 1 ^<- 2: }
{ case c <- 1 ^= 2: }
{ case c <- 1^; }
{ case x =^
{ case x = ^1: }
{ case x = ^y: }
{ case x = ^(<-c): }
{ case x = ^-<-c: }
{ case x = ^: }
{ case x = <-^
{ case x = <- ^: }
{ case x = <-c^
{ case x = <-c ^+ 1: }
{ case x = <-c ^== 1: }
{ case x = <-c ^<- 1: }
{ case x = <-c ^= 1: }
{ case x = <-c ^}
{ case x :=^
{ case x := ^1: }
{ case x := ^y: }
{ case x := ^(<-c): }
{ case x := ^f(): }
{ case x := <-^
{ case x := <-c^
{ case x := <-c ^* 2: }
{ case x := <-c ^<- 2: }
{ case x := <-c ^:= 1: }
{ case x := <-c^; }
{ case (x) ^:= <-c: }
{ case x.y ^:= <-c: }
{ case x^, y := <-c: }
{ default^
{ default ^}
{ default ^x: }
{ default ^<-c: }
{ default ^{ } }
{ default:^
{ default: ^; }
{ default: ^: }
{ default: ^else }
{ default: x ^}
{ default: f() ^default: }
{ default: f() ^case <-c: }
{ default: f() ^f() }
{ default: return ^case <-c: }
{ default: return ^default: }
{ default: { } ^case <-c: }
{ default: f();^; }
{ case <-c: f() ^case <-d: }
{ case <-c: f()\n^; }
{ case <-c: x^: }
{ default: }^
{ default: } ^f() }
{ default: } ^{ } }
{ default: f() }^
`

// P4.1: errors in select statements.
func TestSelectErrors(t *testing.T) { checkErrors(t, "func f() { select ", selectErrors) }

const expressionErrors = `
^
^; }
^) }
^int }
^[]int }
^struct { }
^* p }
^/ p }
^&& p }
^== p }
^. p }
^, p }
^[1] }
^{ }
^print(1) }
^close(c) }
^if a { }
^type }
^chan }
^mutex }
-^
- ^}
- ^* }
-^; }
!^
! ^= }
<-^
<- ^}
<- ^chan }
a +^
a + ^}
a +^; }
a + ^* b }
a + ^) }
a ^! b }
a ^:= b }
a == ^== b }
a < ^> b }
a && ^|| b }
a - ^{ }
(^
( ^) }
(^; }
(a^
(a^; ) }
(a^\n) }
(a ^] }
(a^, b) }
(a ^= b) }
(a ^:= b) }
(^var a int) }
((a) ^}
a ^) }
a.^
a. ^}
a.^1 }
a.^int }
a.^print }
a.^(b) }
a.^. }
a[^
a[ ^] }
a[^; }
a[1^
a[1 ^) }
a[1^, 2] }
a[1^: 2] }
a[1^; ] }
a[1^\n] }
a(^
a(^, }
a(^; }
a(^] }
a(1^
a(1 ^2) }
a(1^; 2) }
a(1^\n) }
a(1,^
a(1, ^) }
a(1, ^, 2) }
a(1 ^= 2) }
a(b ^:= 2) }
a(1 ^] }
a() ^b }
a ^1 }
1 ^x }
1 ^2 }
1.^2 }
true ^false }
nil ^nil }
new^
new ^T }
new(^
new(^) }
new(^int) }
new(^1) }
new(^*T) }
new(^(T)) }
new(T^
new(T^, 1) }
new(T^.x) }
new(T^\n) }
make^
make ^[]int }
make(^
make(^) }
make(^x, 1) }
make(^int, 1) }
make(^(chan int), 1) }
make([^
make([ ^1]int, 1) }
make([]^
make([]^bool, 1) }
make([]^x, 1) }
make([]int^
make([]int^) }
make([]int^\n, 1) }
make([]int ^1) }
make([]int,^
make([]int, ^) }
make([]int, 1^
make([]int, 1^, 2) }
make([]int, 1^; }
make(chan^
make(chan ^bool, 1) }
make(chan ^chan int, 1) }
make(chan int^
make(chan int^) }
make(chan int,^
make(chan int, ^) }
make(chan int, 1 ^] }
make(chan int, 1^, 2) }
make(^func(), 1) }
len^
len ^x }
len(^
len(^) }
len(x^
len(x^, y) }
len(x^\n) }
len(^int) }
len(^[]int) }
func^
func ^f() { } }
func ^{ } }
func(^
func(^x int) { } }
func(^{ } }
func()^
func() ^int { } }
func() ^} }
func()^\n{ } }
func() {^
func() { ^; } }
func() { }^
func() { x ^} }
func() { } ^{ } }
func() { } ^x }
`

// P4.1: errors in expressions.
func TestExpressionErrors(t *testing.T) { checkErrors(t, "func f() { x = ", expressionErrors) }

// P4.1: errors of layer 2 come first, wherever they are; then errors of syntax; then trees with too many levels.
func TestFirstError(t *testing.T) {
	long, deep := strings.Repeat("n", 33), "print("+strings.Repeat("-", 60)+"1)"
	for _, x := range []struct {
		s  string
		at int
		e  api.Errno
	}{
		{"var x # int", 6, api.ErrSyntax}, {"x y z #", 6, api.ErrSyntax}, {"} 01", 2, api.ErrSyntax}, {"; 1x", 2, api.ErrSyntax}, {"func f() { x + 1 } \"", 19, api.ErrSyntax},
		{"; " + long, 2, api.ErrLimit}, {"var " + long + " int", 4, api.ErrLimit}, {"func f() { x. }" + long, 15, api.ErrLimit}, {long + " #", 0, api.ErrLimit}, {"# " + long, 0, api.ErrSyntax},
		{"func f() { x = 9223372036854775808 }", 15, api.ErrSyntax}, {"func f() { x = 00 }", 15, api.ErrSyntax},
		{"func f() {" + deep + "}", 0, api.ErrLimit}, {"func f() {" + deep + "} x", 80, api.ErrSyntax}, {"func f() {" + deep, 78, api.ErrSyntax}, {"func f() {" + deep + "; ; }", 80, api.ErrSyntax},
		{"func f() {" + deep + "} // c\n 1x", 86, api.ErrSyntax}, {"x func f() {" + deep + "}", 0, api.ErrSyntax}, {"func f() {" + deep + "}" + long, 79, api.ErrLimit},
		{"var y if // #", 6, api.ErrSyntax}, {"// #\nx", 5, api.ErrSyntax},
	} {
		checkAnswer(t, x.s, x.at, x.e)
	}
}

// P4.1: texts of 20000 and 20001 bytes, and names of 32 and 33.
func TestSizes(t *testing.T) {
	name := strings.Repeat("n", 32)
	checkTree(t, "var "+name+" *"+name, "file@0(var "+name+"@0(pointer "+name+"@37, none))")
	checkAnswer(t, "var x *"+name+"n", 7, api.ErrLimit)
	for _, s := range []string{"", "var x int", "x", "func f() { x + 1 }", "func f() { x. "} {
		at, e := specified(s)
		for _, filler := range []string{" ", "\n", "\r", "// "} {
			long := (s + strings.Repeat(filler, 20000))[:20000]
			if n, longAt, longE := Parse(long); longE != e || longE == api.OK && len(n.Kids) != min(len(s), 1) || longAt != at && at < len(s) {
				t.Errorf("%q and %q: %d %v", s, filler, longAt, longE)
			}
			checkAnswer(t, long+" ", 0, api.ErrLimit)
		}
	}
	checkAnswer(t, strings.Repeat(" ", 19999)+"x", 19999, api.ErrSyntax)
	checkAnswer(t, "var x"+strings.Repeat(" ", 19995), 20000, api.ErrSyntax)
	checkTree(t, strings.Repeat("\n", 19991)+"var x int", "file@0(var x@19991(type int@19997, none))")
}

// levels returns the number of nodes of the longest path from the root.
func levels(n api.Node) int {
	most := 0
	for _, k := range n.Kids {
		most = max(most, levels(k))
	}
	return 1 + most
}

// P4.1: a path has at most 50 nodes. Nested constructs of every kind, of which the first 50 levels are accepted.
func TestLevels(t *testing.T) {
	for _, x := range []struct{ before, open, middle, close, after string }{
		{"x = ", "-", "1", "", ""}, {"x = ", "!", "y", "", ""}, {"x = ", "<-", "c", "", ""}, {"", "<-", "c", "", ""}, {"x = ", "", "a", "+a", ""}, {"x = ", "a-(", "a", ")", ""},
		{"x = ", "", "a", ".b", ""}, {"x = ", "", "a", "[1]", ""}, {"x = ", "a[", "1", "]", ""}, {"", "", "f", "()", ""}, {"x = ", "f(", "1", ")", ""}, {"x = ", "f(1, ", "new(T)", ", 2)", ""},
		{"x = ", "len(", "nil", ")", ""}, {"x = ", "make([]int,", "true", ")", ""}, {"x = ", "make(chan int,", "1", ")", ""}, {"x = ", "func() { return ", "1", " }", ""},
		{"", "{", "", "}", ""}, {"", "for {", "", "}", ""}, {"", "for { {", "var x int", "} }", ""}, {"", "if a {", "b()", "}", ""}, {"", "if a { } else ", "if b { }", "", ""}, {"", "if a { } else ", "{ }", "", ""},
		{"", "if a { } else {", "x := 1", "}", ""}, {"", "select { default: ", "", "}", ""}, {"", "select { case c <- 1: ", "return", "}", ""}, {"select { case x := <-", "<-", "c", "", ": }"}, {"select { case ", "<-", "c", "", ": }"},
		{"go ", "func() { go ", "f()", " }()", ""}, {"defer ", "", "f", "()", "()"}, {"c <- ", "-", "1", "", ""}, {"close(", "-", "1", "", ")"}, {"for ", "-", "a", "", " { }"}, {"var x int = ", "!", "a", "", ""},
	} {
		checkLevels(t, func(count int) string {
			return "func f() {" + x.before + strings.Repeat(x.open, count) + x.middle + strings.Repeat(x.close, count) + x.after + "}"
		})
	}
}

// checkLevels requires that the texts of growing numbers of levels are accepted up to 50 levels.
func checkLevels(t *testing.T, text func(int) string) {
	t.Helper()
	most := 0
	for count := 1; count < 60; count++ {
		s := text(count)
		n, _, e := Parse(s)
		if e == api.OK {
			most = levels(n)
			continue
		}
		step := levels(accepted(t, text(2))) - levels(accepted(t, text(1)))
		if most+step <= 50 || most > 50 {
			t.Errorf("%.40q: %d levels", s, most)
		}
		checkAnswer(t, s, 0, api.ErrLimit)
		checkAnswer(t, s+"\nvar x int", 0, api.ErrLimit)
	}
	if most == 0 || len(text(59)) > 20000 {
		t.Errorf("%.40q", text(59))
	}
}

// P4.1: parentheses have no node, so that they do not count as levels.
func TestParentheses(t *testing.T) {
	for _, count := range []int{1, 49, 60, 9900} {
		open, close := strings.Repeat("(", count), strings.Repeat(")", count)
		n := accepted(t, "func f() { x = "+open+"1"+close+" }")
		if levels(n) != 5 || n.Kids[0].Kids[2].Kids[0].Kids[1].At != 15+count {
			t.Error(count, show(n))
		}
		checkAnswer(t, "func f() { x = "+open+"1"+close+") }", 16+2*count, api.ErrSyntax)
		checkAnswer(t, "func f() { x = "+open+"1"+close[1:]+" }", 16+2*count, api.ErrSyntax)
	}
}

// vocabulary contains a text for every token that may stand in a text.
var vocabulary = strings.Fields("x 1 type struct var func if else for return go defer select case default chan new make len true false nil print close int bool mutex rwmutex group once atomic ( ) [ ] { } , ; : . := = == != < <= > >= + - * / % ! && || <-")

// explore requires that the tokens that the grammar permits behind a text, and no others, are accepted there, and the same for all
// texts with at most depth more tokens. It returns their number.
func explore(t *testing.T, s string, r recognizer, depth int) int {
	t.Helper()
	count := 0
	for _, word := range vocabulary {
		next := s + " " + word
		l, _, _ := scan.Scan(word)
		longer, possible := r.extend(l[0])
		switch {
		case !possible:
			checkAnswer(t, next, len(s)+1, api.ErrSyntax)
		case longer.accepts():
			if n := accepted(t, next); !syntax.Valid(n) {
				t.Errorf("%q: %s", next, show(n))
			}
		default:
			checkAnswer(t, next, len(next), api.ErrSyntax)
		}
		count++
		if possible && depth > 1 {
			count += explore(t, next, longer, depth-1)
		}
	}
	return count
}

// P4.1: all tokens, behind all that is possible behind some texts.
func TestGrammar(t *testing.T) {
	const f = "func f() {"
	count := 0
	for _, x := range []struct {
		s     string
		depth int
	}{
		{"", 5}, {"type T struct {", 3}, {"var x int;", 3}, {"func f() { }", 3}, {"func f(a int", 3}, {f, 3}, {f + "x", 3}, {f + "x :=", 2}, {f + "x =", 2}, {f + "x = 1", 2}, {f + "c <- 1", 2}, {f + "x()", 3},
		{f + "(x", 3}, {f + "(f()", 3}, {f + "(<-c", 3}, {f + "x = (1", 2}, {f + "x = -1", 2}, {f + "x[1", 2}, {f + "x(1", 3}, {f + "x.y", 2}, {f + "go x", 3}, {f + "go x()", 3}, {f + "go (x()", 3}, {f + "defer x[1]", 2}, {f + "if a", 3},
		{f + "if a { }", 4}, {f + "if a { } else", 3}, {f + "for a { }", 3}, {f + "return", 3}, {f + "return 1", 2}, {f + "var x int", 3}, {f + "var x int =", 2}, {f + "print(1", 2}, {f + "print(1)", 2}, {f + "close(c)", 2},
		{f + "select", 4}, {f + "select { case", 3}, {f + "select { case x", 3}, {f + "select { case x =", 3}, {f + "select { case x = <-c", 3}, {f + "select { case x :=", 3}, {f + "select { case x := <-c", 3}, {f + "select { case <-c", 3}, {f + "select { case (<-c", 3},
		{f + "select { case c <- 1", 3}, {f + "select { default:", 3}, {f + "select { default: x()", 3}, {f + "select { default: return", 3}, {f + "select { }", 2}, {f + "x = make", 5}, {f + "x = new", 4}, {f + "x = len(x", 3}, {f + "x = func", 5}, {f + "x = func() { }", 3}, {f + "func() { }", 3},
	} {
		r := newRecognizer()
		l, _, _ := scan.Scan(x.s)
		for _, token := range l {
			r, _ = r.extend(token)
		}
		count += explore(t, x.s, r, x.depth)
	}
	if count < 100000 {
		t.Error(count)
	}
}

// changes returns texts that differ from s in the tokens i and i+1 of l, its tokens, among them the texts that end there.
func changes(s string, l []api.Token, i int, c *chooser) []string {
	x := l[i]
	end := x.At + len(x.Text)
	before, after := s[:x.At]+" ", " "+s[end:]
	all := []string{before, s[:end], before + after, before + pick(c, vocabulary) + after, before + pick(c, vocabulary) + " " + s[x.At:], s[:end] + " " + x.Text + after}
	if i+1 < len(l) {
		y := l[i+1]
		all = append(all, before+y.Text+" "+s[end:y.At]+" "+x.Text+" "+s[y.At+len(y.Text):])
	}
	return all
}

// P4.1: files that are changed in one token or two have the specified result.
func TestChangedTexts(t *testing.T) {
	c := &chooser{}
	counts := map[string]int{}
	for _, f := range files(50, 5) {
		s, _ := written(f, c, true)
		l, _, _ := scan.Scan(s)
		r := newRecognizer()
		for i, token := range l {
			for _, changed := range changes(s, l, i, c) {
				list, wantAt, want := scan.Scan(changed)
				if want == api.OK {
					wantAt, want = r.judge(list[i:], len(changed))
				}
				n, at, e := Parse(changed)
				if e != want || at != wantAt || (e == api.OK) != syntax.Valid(n) {
					t.Fatalf("%q: %d %v %s, want %d %v", changed, at, e, show(n), wantAt, want)
				}
				counts[e.Error()+strconv.FormatBool(at < len(changed))]++
			}
			r, _ = r.extend(token)
		}
	}
	for _, kind := range []string{"oktrue", "invalid source texttrue", "invalid source textfalse"} {
		if counts[kind] < 1000 {
			t.Error(counts)
		}
	}
}
