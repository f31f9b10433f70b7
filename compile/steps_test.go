package compile

import (
	"slices"
	"strconv"
	"strings"
	"testing"

	"interleave/api"
	"interleave/scan"
)

// operations returns the words of the operations, in the order of their numbers.
func operations() []string {
	return strings.Fields("? const nil move add sub mul div rem neg not eq ne lt le len jump jumpz global field index new slice chan closure cap call callc defer deferc return go goc " +
		"load store aload astore aadd acas lock unlock rlock runlock group wait once onceend send recv close select case print")
}

// setting is what the statements of the tables can use.
const setting = `type T struct { a int; n *T; f func(); s []int; c chan int; m mutex; l rwmutex; wg group; on once; at atomic }
type E struct { }
var x int; var y int; var z int; var b bool; var p *T; var q *T; var r *T; var s []int; var u []int; var c chan int; var d chan int; var h func()
var mu mutex; var rw rwmutex; var wg group; var on once; var at atomic
func k(i int, j int) int { return i + j }
func e() { }
func o(i int, t *T) *T { return t }
func box(i int, t *T, j int) { func() { t = nil; i = j }() }
func main() {
	p = new(T); q = p; p.n = p; p.f = e; p.s = make([]int, 2); s = p.s; u = s; p.c = make(chan int, 1); c = p.c; d = make(chan int, 2); y = 1; h = e
	print(0)
`

// steps runs statements in main by the first possible picks. It returns what happens, with the goroutines other than 0 and with the
// tokens at the offsets of visible instructions.
func steps(t *testing.T, statements string) string {
	t.Helper()
	text := setting + statements + "\n}"
	p, at, e := Source(text)
	if e != api.OK {
		t.Fatalf("%s: %d %v", statements, at, e)
	}
	w := compiled(p)
	for range 1000 {
		l := w.picks()
		if len(l) == 0 {
			break
		}
		w.do(l[0])
	}
	first := slices.IndexFunc(w.log, func(x entry) bool { return x.op == api.OpPrint })
	var words []string
	for _, x := range w.log[first+1:] {
		words = append(words, show(t, text, x))
	}
	return strings.Join(words, " ")
}

// show writes an entry of a log, for example "1:load@x".
func show(t *testing.T, text string, x entry) string {
	word := operations()[x.op]
	switch x.op {
	case 0:
		word = "fault" + strconv.Itoa(x.fault)
	case api.OpNew, api.OpSlice, api.OpChan, api.OpClosure:
	default:
		word += "@" + tokenAt(t, text, x.at)
	}
	if word == "print@print" {
		word = "print=" + strconv.Itoa(x.printed)
	}
	if x.g > 0 {
		word = strconv.Itoa(x.g) + ":" + word
	}
	return word
}

func tokenAt(t *testing.T, text string, at int) string {
	t.Helper()
	l, _, _ := scan.Scan(text)
	i := slices.IndexFunc(l, func(x api.Token) bool { return x.At == at })
	if i < 0 {
		t.Fatalf("%d: no token", at)
	}
	return l[i].Text
}

// checkSteps requires of each row "STATEMENTS -> STEPS" that the statements have these steps.
func checkSteps(t *testing.T, rows string) {
	t.Helper()
	for row := range strings.SplitSeq(strings.TrimSpace(rows), "\n") {
		statements, want, found := strings.Cut(row, "->")
		if got := steps(t, statements); got != strings.TrimSpace(want) || !found {
			t.Errorf("%s\ngot %s", row, got)
		}
	}
}

// P11.2: declarations of variables.
func TestDeclarations(t *testing.T) {
	checkSteps(t, `
var i int; var v bool; var l []int; print(i); if !v && l == nil { print(1) } -> print=0 print=1
var i int = y; print(i) -> load@y print=1
i := y; print(i) -> load@y print=1
i := x; j := i; i = y; print(j) -> load@x load@y print=0
var i int; func() { i = x }() -> new closure load@x store@i
var i int = y; func() { i = x }() -> load@y new store@var closure load@x store@i
i := y; func() { i = x }() -> load@y new store@i closure load@x store@i
var i *T = p; func() { i.a = x }() -> load@p new store@var closure load@i load@x store@.
i := 7; j := i; func() { i = j }() -> new store@i load@i new store@j closure load@j store@i
i := 0; for i < 2 { i = i + 1; j := i; func() { print(j) }() } -> new store@j closure load@j print=1 new store@j closure load@j print=2
i := y; { i := x; print(i) }; print(i) -> load@y load@x print=0 print=1
var i int; { i := i; func() { i = y }(); i = x }; print(i) -> new store@i closure load@y store@i load@x store@i print=0
box(x, p, 3) -> load@x load@p new store@i new store@t new store@j closure store@t load@j store@i
`)
}

// P11.2: assignments; addresses are computed after the values.
func TestAssignments(t *testing.T) {
	checkSteps(t, `
x = y -> load@y store@x
i := 1; i = y; i = i + x; print(i) -> load@y load@x print=1
i := true; i = b || i; i = i && !i; print(i) -> load@b print=0
i := 1; func() { i = y }(); i = z -> new store@i closure load@y store@i load@z store@i
p.a = x -> load@p load@x store@.
p.n.a = q.n.a -> load@p load@. load@q load@. load@. store@.
s[x] = u[y] -> load@s load@x load@u load@y load@[ store@[
p.s[x + y] = z -> load@p load@. load@x load@y load@z store@[
i := p; j := s; i.a = 1; j[i.a] = 2 -> load@p load@s store@. load@. store@[
o(x, p).a = k(y, z) -> load@x load@p load@y load@z store@.
r.a = x -> load@r load@x fault1
r.a = <-d -> load@r load@d recv@<-
u = nil; u[y] = x -> store@u load@u load@y load@x fault1
s[2] = x -> load@s load@x fault2
s[-1] = x -> load@s load@x fault2
s[x / z] = y -> load@s load@x load@z fault3
r.n.a = x -> load@r fault1
`)
}

// P11.2: calls, and what can be called.
func TestCalls(t *testing.T) {
	checkSteps(t, `
print(k(x, y)) -> load@x load@y print=1
k(x, k(y, z)) -> load@x load@y load@z
print(k(k(x, 1), k(2, y)) + z) -> load@x load@y load@z print=4
e() -> 
i := e; i() -> closure
h() -> load@h
p.f() -> load@p load@.
h = nil; h() -> store@h load@h fault1
func() { print(x) }() -> closure load@x print=0
i := func() { x = y }; i(); i() -> closure load@y store@x load@y store@x
i := 5; func() { func() { print(i) }() }() -> new store@i closure closure load@i print=5
i := 5; func() { j := i; func() { i = j }() }(); print(i) -> new store@i closure load@i new store@j closure load@j store@i load@i print=5
h = e; p.f = func() { } -> closure store@h load@p closure store@.
`)
}

// P11.2: methods.
func TestMethods(t *testing.T) {
	checkSteps(t, `
mu.Lock(); mu.Unlock() -> lock@( unlock@(
rw.Lock(); rw.Unlock(); rw.RLock(); rw.RUnlock() -> lock@( unlock@( rlock@( runlock@(
wg.Add(k(x, y)); wg.Done(); wg.Wait() -> load@x load@y group@( group@( wait@(
wg.Add(3); wg.Add(-2); wg.Done(); wg.Wait() -> group@( group@( group@( wait@(
at.Store(y); print(at.Load()); print(at.Add(x)) -> load@y astore@( aload@( print=1 load@x aadd@( print=1
print(at.CompareAndSwap(x, y)) -> load@x load@y acas@( print=1
at.Load(); at.Add(1); at.CompareAndSwap(1, 2) -> aload@( aadd@( acas@(
p.m.Lock(); p.n.m.Unlock() -> load@p lock@( load@p load@. unlock@(
p.at.Store(x); print(p.at.Load()) -> load@p load@x astore@( load@p aload@( print=0
r.at.Store(x) -> load@r fault1
r.wg.Add(x) -> load@r fault1
on.Do(h) -> load@h once@( onceend@(
on.Do(func() { x = 1 }); on.Do(h) -> closure once@( store@x onceend@( load@h once@(
p.on.Do(p.f) -> load@p load@p load@. once@( onceend@(
h = nil; on.Do(h) -> store@h load@h once@( fault1
mu.Unlock() -> unlock@( fault5
wg.Done() -> group@( fault6
`)
}

// P11.2: go statements and defer statements.
func TestSpawns(t *testing.T) {
	checkSteps(t, `
go k(x, y) -> load@x load@y go@go
go e() -> go@go
i := e; go i() -> closure goc@go
go func() { x = 1 }() -> closure goc@go 1:store@x
go p.f() -> load@p load@. goc@go
h = nil; go h() -> store@h load@h goc@go fault1
go mu.Lock() -> closure goc@go 1:lock@(
go p.m.Lock() -> load@p closure goc@go 1:lock@(
go wg.Add(y) -> load@y closure goc@go 1:group@(
go p.wg.Done() -> load@p closure goc@go 1:group@( 1:fault6
go p.at.CompareAndSwap(x, y) -> load@p load@x load@y closure goc@go 1:acas@(
go at.Add(x) -> load@x closure goc@go 1:aadd@(
go at.Load() -> closure goc@go 1:aload@(
go on.Do(func() { x = 1 }) -> closure closure goc@go 1:once@( 1:store@x 1:onceend@(
go on.Do(nil) -> closure goc@go 1:once@( 1:fault1
defer e(); x = 1 -> store@x
defer k(x, y); z = 1 -> load@x load@y store@z
defer func() { x = 1 }(); y = 2 -> closure store@y store@x
defer mu.Unlock(); mu.Lock() -> closure lock@( unlock@(
defer p.m.Unlock(); mu.Lock() -> load@p closure lock@( unlock@( fault5
defer p.at.Add(x); defer wg.Wait(); x = 2 -> load@p load@x closure closure store@x wait@( aadd@(
defer h(); h = nil -> load@h store@h
h = nil; defer h(); x = 1 -> store@h load@h fault1
defer on.Do(h); on.Do(e) -> load@h closure closure once@( onceend@( once@(
r.m.Lock() -> load@r fault1
go r.m.Lock() -> load@r fault1
defer r.on.Do(h) -> load@r fault1
`)
}

// P11.2: statements that control what is executed, and the remaining ones.
func TestStatements(t *testing.T) {
	checkSteps(t, `
if b { x = 1 } -> load@b
if !b { x = 1 } -> load@b store@x
if b { x = 1 } else { y = 2 } -> load@b store@y
if b == false { x = 1 } else { y = 2 } -> load@b store@x
if b { x = 1 } else if y == 1 { y = 2 } else { z = 3 } -> load@b load@y store@y
if b { x = 1 } else if y == 2 { y = 2 } else { z = 3 } -> load@b load@y store@z
if b { x = 1 } else if b { y = 2 } -> load@b load@b
for x < 2 { x = x + 1 } -> load@x load@x store@x load@x load@x store@x load@x
i := 0; for { if i == 2 { return }; i = i + 1; print(x) } -> load@x print=0 load@x print=0
for b { } -> load@b
return; x = 1 -> 
if y == 1 { return }; x = 1 -> load@y
{ x = 1; { y = 2 } } -> store@x store@y
c <- x; print(<-c) -> load@c load@x send@<- load@c recv@<- print=0
<-p.c -> load@p load@. recv@<-
close(c); i := <-c; print(i) -> load@c close@close load@c recv@<- print=0
print(x < y); print(b) -> load@x load@y print=1 load@b print=0
close(c); c <- x -> load@c close@close load@c load@x send@<- fault4
`)
}

// P11.2: select statements.
func TestSelects(t *testing.T) {
	checkSteps(t, `
select { default: x = 1 } -> select@select store@x
select { case <-c: x = 1; default: y = 1 } -> load@c select@select store@y
select { default: y = 1; case <-c: x = 1 } -> load@c select@select store@y
select { case c <- x: y = 1 } -> load@c load@x select@select store@y
select { case <-c: x = 1; case d <- y: z = 1 } -> load@c load@d load@y select@select store@z
c <- 5; select { case i := <-c: print(i); case d <- y: } -> load@c send@<- load@c load@d load@y select@select print=5
c <- 5; select { case d <- y: x = 1; case i := <-c: func() { print(i) }() } -> load@c send@<- load@d load@y load@c select@select store@x
c <- 5; select { case i := <-c: func() { print(i) }() } -> load@c send@<- load@c select@select new store@i closure load@i print=5
c <- 5; select { case x = <-c: y = 1 } -> load@c send@<- load@c select@select store@x store@y
c <- 5; i := 0; select { case i = <-c: print(i) } -> load@c send@<- load@c select@select print=5
c <- 5; select { case p.a = <-c: y = 1 } -> load@c send@<- load@c select@select load@p store@. store@y
c <- 1; select { case s[x] = <-c: y = 1 } -> load@c send@<- load@c select@select load@s load@x store@[ store@y
c <- 1; select { case r.a = <-c: y = 1 } -> load@c send@<- load@c select@select load@r fault1
i := 3; c <- 1; select { case i := <-c: print(i); i = 2 }; print(i) -> load@c send@<- load@c select@select print=1 print=3
i := c; select { case i <- 1: }; select { case <-i: print(7) } -> load@c select@select select@select print=7
i := 3; j := 4; c <- 1; select { case <-c: print(i) }; print(j); select { case c <- i: print(i) }; <-c; print(j) -> load@c send@<- load@c select@select print=3 print=4 load@c select@select print=3 load@c recv@<- print=4
select { } -> 
select { case <-d: x = 1 } -> load@d select@select
go func() { d <- y }(); select { case i := <-d: x = i } -> closure goc@go load@d select@select 1:load@d 1:load@y 1:send@<- store@x
close(c); select { case c <- 1: x = 1 } -> load@c close@close load@c select@select fault4
`)
}

// P11.2: expressions.
func TestExpressions(t *testing.T) {
	checkSteps(t, `
print(x + y * z - x / y % 7) -> load@x load@y load@z load@x load@y print=0
print((x < y) == (y > z) != (x <= z)) -> load@x load@y load@y load@z load@x load@z print=0
print(-x); print(!b) -> load@x print=0 load@b print=1
print(b && x == 1) -> load@b print=0
print(!b && x == y) -> load@b load@x load@y print=0
print(!b || x == 1) -> load@b print=1
print(b || x == y) -> load@b load@x load@y print=0
print(p == q); print(p != nil); print(nil == r); print(c == d) -> load@p load@q print=1 load@p print=1 load@r print=1 load@c load@d print=0
i := 17; j := 5; print(i + j * 3 - i / j % 2); j = -7; print(j / 2); print(j % 2); print(-j) -> print=31 print=-3 print=-1 print=7
i := 3; print(i < 4); print(i < 3); print(i <= 3); print(i <= 2); print(i > 3); print(i > 2); print(i >= 3); print(i >= 4) -> print=1 print=0 print=1 print=0 print=0 print=1 print=1 print=0
i := 3; print(i == 3); print(i == 4); print(i != 3); print(i != 4); j := true; print(j == false); print(!j) -> print=1 print=0 print=0 print=1 print=0 print=0
i := 9223372036854775807; print(i + 1 == -i - 1); print((-i - 1) / -1 == -i - 1); print((-i - 1) % -1) -> print=1 print=1 print=0
print(x / z); print(1) -> load@x load@z fault3
print(x % z) -> load@x load@z fault3
print(p.n.a) -> load@p load@. load@. print=0
print(r.a) -> load@r fault1
print(s[x]) -> load@s load@x load@[ print=0
print(s[2]) -> load@s fault2
u = nil; print(u[x]) -> store@u load@u load@x fault1
print(len(s)); u = nil; print(len(u)) -> load@s print=2 store@u load@u print=0
s = make([]int, x + 2) -> load@x slice store@s
c = make(chan int, x) -> load@x chan store@c
s = make([]int, -1) -> fault7
s = make([]int, 65) -> fault7
c = make(chan int, x - 1) -> load@x fault7
c = make(chan int, 64); s = make([]int, 64) -> chan store@c slice store@s
r = new(T); i := new(E); j := i; print(i == j) -> new store@r new print=1
h = func() { x = 1 } -> closure store@h
h = e -> closure store@h
`)
}
