package check

import (
	"slices"
	"strings"
	"testing"

	"interleave/api"
	"interleave/types"
)

// P6.1: names denote the innermost visible variable, or what the file declares.
func TestNames(t *testing.T) {
	checkBodies(t, []wrong{
		{"print(@x)", api.NName, api.ErrName},
		{"print(@T)", api.NName, api.ErrName},
		{"print(@Lock)", api.NName, api.ErrName},
		{"x := @give", api.NName, api.ErrType},
		{"x := @take", api.NName, api.ErrType},
		{"x := @both", api.NName, api.ErrType},
		{"f = @test", api.NName, api.ErrType},
		{"x := @m", api.NName, api.ErrType},
		{"x := @r", api.NName, api.ErrType},
		{"x := @g", api.NName, api.ErrType},
		{"x := @o", api.NName, api.ErrType},
		{"x := @a", api.NName, api.ErrType},
		{"print(@a == 1)", api.NName, api.ErrType},
		{"z = @m == m", api.NName, api.ErrType},
		{"take(@a)", api.NName, api.ErrType},
		{"{ x := 1; n = x }; n = @x", api.NName, api.ErrName},
		{"f = func() { x := 1; n = x }; n = @x", api.NName, api.ErrName},
		{"n := true; take(@n)", api.NName, api.ErrType},
		{"m := 1; m@.Lock()", api.NMember, api.ErrType},
		{"give := n; n = @give()", api.NName, api.ErrType},
		{"give := idle; give@(1)", api.NCall, api.ErrType},
		{"take := idle; take@(1)", api.NCall, api.ErrType},
		{"idle := 1; f = @idle", api.NName, api.ErrType},
		{"}; func h(give int) { @give()", api.NName, api.ErrType},
		{"}; func h(m int) { m@.Lock()", api.NMember, api.ErrType},
		{"}; func h(x int) { }; func i() { n = @x", api.NName, api.ErrName},
		{"x := 1; }; func i() { n = @x", api.NName, api.ErrName},
	})
	acceptBodies(t, "x := idle; x = f; f = main; x()", "m := idle; m()", "m := 1; m = n", "T := t; n = T.n", "x := 1; f = func() { x = 2; f = func() { x = 3 } }", "f = func() { n := z; n = z }; n = 1",
		"t := t; t = t", "z := n; { z := z == 1; z = true }; z = 2", "}; func h(n bool, m *T, h int) { n = true; m.m.Lock(); h = 1")
}

// P6.1: members of pointers to structs.
func TestMembers(t *testing.T) {
	checkBodies(t, []wrong{
		{"n@.x = 1", api.NMember, api.ErrType},
		{"z@.x = 1", api.NMember, api.ErrType},
		{"s@.n = 1", api.NMember, api.ErrType},
		{"c@.n = 1", api.NMember, api.ErrType},
		{"f@.n = 1", api.NMember, api.ErrType},
		{"idle@.n = 1", api.NMember, api.ErrType},
		{"nil@.n = 1", api.NMember, api.ErrType},
		{"1@.n = 1", api.NMember, api.ErrType},
		{"idle()@.n = 1", api.NMember, api.ErrType},
		{"give()@.n = 1", api.NMember, api.ErrType},
		{"@m.n = 1", api.NName, api.ErrType},
		{"@give.n = 1", api.NName, api.ErrType},
		{"@x.n = 1", api.NName, api.ErrName},
		{"@T.n = 1", api.NName, api.ErrName},
		{"t@.x = 1", api.NMember, api.ErrName},
		{"t@.T = 1", api.NMember, api.ErrName},
		{"t@.Lock = 1", api.NMember, api.ErrName},
		{"u@.t = 1", api.NMember, api.ErrName},
		{"t.u@.z = true", api.NMember, api.ErrName},
		{"t.t@.x = true", api.NMember, api.ErrName},
		{"t@.x.n = 1", api.NMember, api.ErrName},
		{"n = t.n@.n", api.NMember, api.ErrType},
		{"n = t@.m", api.NMember, api.ErrType},
		{"n = t@.a", api.NMember, api.ErrType},
		{"f = t@.o", api.NMember, api.ErrType},
		{"t@.g = nil", api.NMember, api.ErrType},
		{"t.t@.r = nil", api.NMember, api.ErrType},
		{"t@.m.n = 1", api.NMember, api.ErrType},
		{"n = t@.a.Load", api.NMember, api.ErrType},
		{"f = @m.Lock", api.NName, api.ErrType},
		{"t.u = @t", api.NName, api.ErrType},
		{"new(T)@.x = 1", api.NMember, api.ErrName},
		{"both(nil, @n).x = 1", api.NName, api.ErrType},
	})
	acceptBodies(t, "t.t.t.u.n = t.n", "new(U).n = 1", "both(t, z).z = both(t, z).z", "t.f = t.f; t.f(); t.t.f()", "t.c <- 1; t.s[t.n] = 1", "x := t.u; x = nil; x.n = 1", "for t.z { t = t.t }")
}

// P6.1: the operands of operators, for all operators and all types.
func TestOperators(t *testing.T) {
	for _, op := range strings.Fields("|| && == != < <= > >= + - * / %") {
		for a, left := range values {
			for b, right := range values {
				result, permitted := types.Binary(op, typeOfText(a), typeOfText(b))
				x := left[0] + " @" + op + " " + right[len(right)-1]
				if !permitted {
					checkText(t, body("x := "+x), api.NBinary, api.ErrType)
					continue
				}
				acceptBodies(t, strings.Replace("x := "+x+"; x = ", "@", "", 1)+values[types.Text(result)][0])
			}
		}
	}
	for of, l := range values {
		for _, x := range l {
			checkUnary(t, "-", x, of == "int")
			checkUnary(t, "!", x, of == "bool")
			checkUnary(t, "<-", x, of == "chan int")
		}
	}
	checkBodies(t, []wrong{
		{"n = @x + y", api.NName, api.ErrName},
		{"n = nil + @y", api.NName, api.ErrName},
		{"n = (1 @+ nil) + y", api.NBinary, api.ErrType},
		{"n = 1 + (2 @+ nil)", api.NBinary, api.ErrType},
		{"z = idle() @== idle()", api.NBinary, api.ErrType},
		{"n = @-idle()", api.NUnary, api.ErrType},
		{"n = -@x", api.NName, api.ErrName},
		{"z = !@m", api.NName, api.ErrType},
		{"n = @<-idle()", api.NReceive, api.ErrType},
		{"n = <-@m", api.NName, api.ErrType},
		{"n = 1 == 2 @== 3", api.NBinary, api.ErrType},
	})
	acceptBodies(t, "n = - -n", "z = !!z", "n = -(n + 1) * <-c % len(s)", "z = n == 1 == (t == nil)", "z = z || n < 1 && t.t != t", "z = (1 == 2) == z")
}

// typeOfText returns the value type with a text, or that of nil.
func typeOfText(s string) api.Type {
	for _, kind := range []int{api.TInt, api.TBool, api.TSlice, api.TChan, api.TFunc} {
		if x := (api.Type{Kind: kind}); types.Text(x) == s {
			return x
		}
	}
	if s == "" {
		return api.Type{Kind: api.TNil}
	}
	return api.Type{Kind: api.TPointer, Name: s[1:]}
}

// checkUnary requires that an operator permits an operand, or that the error is at the operator.
func checkUnary(t *testing.T, op, x string, fits bool) {
	t.Helper()
	kind, result := api.NUnary, "n"
	switch op {
	case "!":
		result = "z"
	case "<-":
		kind = api.NReceive
	}
	if fits {
		acceptBodies(t, "v := "+op+x+"; v = "+result)
	} else {
		checkText(t, body("v := @"+op+x), kind, api.ErrType)
	}
}

// P6.1: the other expressions.
func TestOtherExpressions(t *testing.T) {
	checkBodies(t, []wrong{
		{"n = @x[y]", api.NName, api.ErrName},
		{"n = @n[y]", api.NName, api.ErrType},
		{"n = s[@y]", api.NName, api.ErrName},
		{"n = s[@s]", api.NName, api.ErrType},
		{"n = s[idle@()]", api.NCall, api.ErrType},
		{"n = idle@()[0]", api.NCall, api.ErrType},
		{"n = s@[0][0]", api.NIndex, api.ErrType},
		{"n = len(@x)", api.NName, api.ErrName},
		{"n = len(@c)", api.NName, api.ErrType},
		{"s = make([]int, @x)", api.NName, api.ErrName},
		{"s = make([]int, idle@())", api.NCall, api.ErrType},
		{"c = make(chan int, @x)", api.NName, api.ErrName},
		{"c = make(chan int, @nil)", api.NNil, api.ErrType},
		{"t = @new(X)", api.NNew, api.ErrName},
		{"t = @new(n)", api.NNew, api.ErrName},
		{"t = @new(give)", api.NNew, api.ErrName},
		{"X := t; t = @new(X)", api.NNew, api.ErrName},
		{"t = @new(U)", api.NNew, api.ErrType},
		{"n = @func() { }", api.NLiteral, api.ErrType},
		{"n = @make([]int, 1)", api.NSlice, api.ErrType},
		{"n = @make(chan int, 1)", api.NChan, api.ErrType},
		{"f = func() { @x = 1 }", api.NName, api.ErrName},
		{"f = func() { x := 1; @x := 1 }", api.NDefine, api.ErrDuplicate},
	})
	acceptBodies(t, "n = s[s[0]]", "n = make([]int, 3)[len(s)]", "x := new(T); x = t; U := new(U); U = u", "f = func() { f := 1; f = 2 }", "x := func() { }; x = nil; f = x; x()")
}

// P6.1: calls of functions, closures and what is neither.
func TestCalls(t *testing.T) {
	checkBodies(t, []wrong{
		{"@x(y)", api.NName, api.ErrName},
		{"@T()", api.NName, api.ErrName},
		{"@n(x)", api.NName, api.ErrType},
		{"@m()", api.NName, api.ErrType},
		{"@1()", api.NInt, api.ErrType},
		{"@nil()", api.NNil, api.ErrType},
		{"give@()()", api.NCall, api.ErrType},
		{"idle@()()", api.NCall, api.ErrType},
		{"t@.n()", api.NMember, api.ErrType},
		{"t@.x()", api.NMember, api.ErrName},
		{"t@.m()", api.NMember, api.ErrType},
		{"t.t@.x()", api.NMember, api.ErrName},
		{"s@[0]()", api.NIndex, api.ErrType},
		{"(n @== 1)()", api.NBinary, api.ErrType},
		{"take@()", api.NCall, api.ErrType},
		{"take@(x, y)", api.NCall, api.ErrType},
		{"take@(1, 2)", api.NCall, api.ErrType},
		{"take(@x)", api.NName, api.ErrName},
		{"take(@nil)", api.NNil, api.ErrType},
		{"take(idle@())", api.NCall, api.ErrType},
		{"both@(nil)", api.NCall, api.ErrType},
		{"both@(x, y, w)", api.NCall, api.ErrType},
		{"both(@x, y)", api.NName, api.ErrName},
		{"both(nil, @y)", api.NName, api.ErrName},
		{"both(@u, y)", api.NName, api.ErrType},
		{"both(nil, @nil)", api.NNil, api.ErrType},
		{"both(t, both@(t, z))", api.NCall, api.ErrType},
		{"idle@(1)", api.NCall, api.ErrType},
		{"idle@(x)", api.NCall, api.ErrType},
		{"f@(1)", api.NCall, api.ErrType},
		{"t.f@(x)", api.NCall, api.ErrType},
		{"func() { }@(1)", api.NCall, api.ErrType},
		{"func() { @x = 1 }(1)", api.NName, api.ErrName},
		{"n = take@(1)", api.NCall, api.ErrType},
		{"z = give@()", api.NCall, api.ErrType},
		{"u = both@(nil, z)", api.NCall, api.ErrType},
		{"n = f@()", api.NCall, api.ErrType},
		{"n = t.f@()", api.NCall, api.ErrType},
		{"n = func() { }@()", api.NCall, api.ErrType},
	})
	acceptBodies(t, "n = give() + give()", "take(give())", "t = both(both(nil, z), test())", "f(); t.f(); idle(); func() { }()", "x := idle; x(); { x := f; x() }", "n = both(nil, 1 == 2).n", "main()", "take(<-c)")
}

// methods are the methods of the synchronization variables that declared contains, with arguments and the type of the result.
var methods = map[string][][3]string{
	"m": {{"Lock"}, {"Unlock"}},
	"r": {{"Lock"}, {"Unlock"}, {"RLock"}, {"RUnlock"}},
	"g": {{"Add", "1"}, {"Done"}, {"Wait"}},
	"o": {{"Do", "f"}, {"Do", "idle"}, {"Do", "nil"}, {"Do", "func() { return }"}},
	"a": {{"Load", "", "int"}, {"Store", "n"}, {"Add", "a.Load()", "int"}, {"CompareAndSwap", "n, 1", "bool"}},
}

// P6.1: calls of methods.
func TestMethods(t *testing.T) {
	for _, prefix := range []string{"", "t.", "t.t.", "both(nil, z).", "new(T)."} {
		for of, l := range methods {
			for _, x := range l {
				checkMethod(t, prefix+of, x)
			}
			for _, others := range methods {
				for _, x := range others {
					if !slices.ContainsFunc(l, func(y [3]string) bool { return y[0] == x[0] }) {
						checkText(t, body(prefix+of+"@."+x[0]+"("+x[1]+")"), api.NMember, api.ErrName)
					}
				}
			}
		}
	}
	checkBodies(t, []wrong{
		{"m@.lock()", api.NMember, api.ErrName},
		{"m.Lock@(x)", api.NCall, api.ErrType},
		{"m@.x(y)", api.NMember, api.ErrName},
		{"g.Add@()", api.NCall, api.ErrType},
		{"g.Add@(1, x)", api.NCall, api.ErrType},
		{"g.Add(@x)", api.NName, api.ErrName},
		{"g.Add(@z)", api.NName, api.ErrType},
		{"g.Add(@nil)", api.NNil, api.ErrType},
		{"o.Do(@give)", api.NName, api.ErrType},
		{"o.Do(@n)", api.NName, api.ErrType},
		{"o.Do(idle@())", api.NCall, api.ErrType},
		{"t.a.CompareAndSwap(1, @z)", api.NName, api.ErrType},
		{"a.CompareAndSwap(@z, x)", api.NName, api.ErrType},
		{"a.Store(m.Lock@())", api.NCall, api.ErrType},
		{"n = a.CompareAndSwap@(1, 2)", api.NCall, api.ErrType},
		{"@m.m.Lock()", api.NName, api.ErrType},
		{"@give.m.Lock()", api.NName, api.ErrType},
		{"@give.Lock()", api.NName, api.ErrType},
		{"idle@.Lock()", api.NMember, api.ErrType},
		{"@x.Lock()", api.NName, api.ErrName},
		{"@T.Lock()", api.NName, api.ErrName},
		{"@x.m.Lock()", api.NName, api.ErrName},
		{"t@.x.Lock()", api.NMember, api.ErrName},
		{"u@.m.Lock()", api.NMember, api.ErrName},
		{"n@.m.Lock()", api.NMember, api.ErrType},
		{"t.n@.Lock()", api.NMember, api.ErrType},
		{"t.t@.Lock()", api.NMember, api.ErrName},
		{"t@.Lock()", api.NMember, api.ErrName},
		{"n@.Lock()", api.NMember, api.ErrType},
		{"give()@.Lock()", api.NMember, api.ErrType},
		{"m.Lock@()()", api.NCall, api.ErrType},
		{"t@.m.m.Lock()", api.NMember, api.ErrType},
		{"f = @m.Lock", api.NName, api.ErrType},
		{"f = t@.m.Lock", api.NMember, api.ErrType},
		{"m := t; m@.Lock()", api.NMember, api.ErrName},
		{"m := f; m@.Lock()", api.NMember, api.ErrType},
	})
	acceptBodies(t, "m := t; m.m.Lock()", "t := new(T); t.m.Lock()", "f = func() { m.Lock(); t.m.Unlock() }", "n = a.Add(1) + t.a.Load(); z = a.CompareAndSwap(n, 1) && z")
}

// checkMethod requires that calls of a method are accepted, and that they have the specified type.
func checkMethod(t *testing.T, receiver string, x [3]string) {
	t.Helper()
	call := receiver + "." + x[0] + "(" + x[1] + ")"
	acceptBodies(t, call, "go "+call, "defer "+call, "{ "+call+" }")
	if x[2] != "" {
		acceptBodies(t, "x := "+call+"; x = "+values[x[2]][0])
		return
	}
	call = receiver + "." + x[0] + "@(" + x[1] + ")"
	checkText(t, body("x := "+call), api.NCall, api.ErrType)
	checkText(t, body("print("+call+")"), api.NCall, api.ErrType)
}
