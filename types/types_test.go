package types

import (
	"slices"
	"strings"
	"testing"

	"interleave/api"
)

// P5.1: the text, the cell and the list of every type.
func TestTypes(t *testing.T) {
	for _, x := range samples() {
		if s := Text(x.t); s != x.text {
			t.Errorf("Text(%v) = %q", x.t, s)
		}
		cell := api.CellInt
		if x.list == reference {
			cell = api.CellRef
		}
		if c := Cell(x.t); c != cell {
			t.Errorf("Cell(%v) = %d", x.t, c)
		}
		if Value(x.t) != (x.list == number || x.list == reference) {
			t.Errorf("Value(%v) = %t", x.t, Value(x.t))
		}
	}
}

// P5.1: the same type, if it is a value type, and nil for the reference types.
func TestAssignable(t *testing.T) {
	l := samples()
	for i, to := range l {
		for k, from := range l {
			same := i == k && (to.list == number || to.list == reference)
			if want := same || to.list == reference && from.text == "nil"; Assignable(to.t, from.t) != want {
				t.Errorf("Assignable(%v, %v) is not %t", to.t, from.t, want)
			}
		}
	}
}

// mayCompare says which operands the chapter lets compare, by the places of the types in the list.
func mayCompare(l []sample, i, k int) bool {
	a, b := l[i], l[k]
	same := i == k && (a.text == "int" || a.text == "bool" || strings.HasPrefix(a.text, "*") || a.text == "chan int")
	return same || a.text == "nil" && b.list == reference || b.text == "nil" && a.list == reference
}

// P5.1: the same type, if it can be compared, and nil with the reference types.
func TestComparable(t *testing.T) {
	l := samples()
	for i, a := range l {
		for k, b := range l {
			if want := mayCompare(l, i, k); Comparable(a.t, b.t) != want {
				t.Errorf("Comparable(%v, %v) is not %t", a.t, b.t, want)
			}
		}
	}
}

// checkBinary requires a result, and none if want is the type of none.
func checkBinary(t *testing.T, op string, a, b, want api.Type) {
	t.Helper()
	if got, ok := Binary(op, a, b); got != want || ok != (want != none) {
		t.Errorf("Binary(%q, %v, %v) = %v, %t", op, a, b, got, ok)
	}
}

// operators returns all operators of the language, texts that are like them, and other texts.
func operators() []string {
	l := strings.Fields("+ - * / % < <= > >= == != && || ( ) [ ] { } , ; : . := = ! <- & | ^ ~ ? << >> ++ -- += &&& ||| === !== =< => <> & && add int T")
	for _, op := range l {
		l = append(l, op+" ", " "+op, op+op, op+"=", op+"\x00")
	}
	slices.Sort(l)
	return slices.Compact(append(l, "", " ", "\n", "\xff", strings.Repeat("+", 1000)))
}

// P5.1: the operators with the operands that each of them permits.
func TestBinary(t *testing.T) {
	l := few()
	for _, op := range operators() {
		for i, a := range l {
			for k, b := range l {
				integers, booleans, want := a.text == "int" && b.text == "int", a.text == "bool" && b.text == "bool", none
				switch op {
				case "+", "-", "*", "/", "%":
					if integers {
						want = integer
					}
				case "<", "<=", ">", ">=":
					if integers {
						want = boolean
					}
				case "==", "!=":
					if mayCompare(l, i, k) {
						want = boolean
					}
				case "&&", "||":
					if booleans {
						want = boolean
					}
				}
				checkBinary(t, op, a.t, b.t, want)
			}
		}
	}
}

// P5.1: pointers with all names, as operands of a comparison.
func TestComparedPointers(t *testing.T) {
	for _, op := range []string{"==", "!=", "<", "+", "&&"} {
		for _, x := range names {
			for _, y := range append(names, noNames...) {
				want := none
				if x == y && strings.HasSuffix(op, "=") {
					want = boolean
				}
				checkBinary(t, op, pointer(x), pointer(y), want)
				checkBinary(t, op, pointer(y), pointer(x), want)
			}
		}
	}
}

// methods is the table of the chapter.
var methods = map[string]string{
	"mutex":   "Lock(), Unlock()",
	"rwmutex": "Lock(), Unlock(), RLock(), RUnlock()",
	"group":   "Add(int), Done(), Wait()",
	"once":    "Do(func())",
	"atomic":  "Load() int, Store(int), Add(int) int, CompareAndSwap(int, int) bool",
}

// listed returns the methods of a type, among these names, as the table of the chapter writes them.
func listed(x api.Type, names []string) string {
	var l []string
	for _, name := range names {
		params, result, ok := Method(x, name)
		if !ok {
			continue
		}
		var texts []string
		for _, p := range params {
			texts = append(texts, Text(p))
		}
		l = append(l, strings.TrimSpace(name+"("+strings.Join(texts, ", ")+") "+Text(result)))
	}
	return strings.Join(l, ", ")
}

// P5.1: the methods of every type, with their parameters and results.
func TestMethod(t *testing.T) {
	words := strings.Fields("Load Lock Unlock RLock RUnlock Store Add Done Wait Do CompareAndSwap lock Locks unlock TryLock RLocker add Sub Swap Go Close And Or do main int T ( Lock()")
	words = append(words, "", " ", "Lock ", " Lock", "Lock\n", "Lock\x00", "mutex", "mutex.Lock", strings.Repeat("Lock", 10000))
	for _, x := range samples() {
		if got := listed(x.t, words); got != methods[x.text] {
			t.Errorf("%v has the methods %s", x.t, got)
		}
	}
}

// P5.1, and rule 3: where there is no method there are no parameters and no result.
func TestNoMethod(t *testing.T) {
	for _, x := range samples() {
		for _, name := range []string{"", "Lock", "RLock", "Add", "Do", "Load", "CompareAndSwap", "T"} {
			if params, result, ok := Method(x.t, name); !ok && (len(params) != 0 || result != none) {
				t.Errorf("Method(%v, %q) = %v, %v, %t", x.t, name, params, result, ok)
			}
		}
	}
}

// P5.1: the caller may change the parameters that it got.
func TestParametersAreNew(t *testing.T) {
	for _, x := range table {
		for _, name := range []string{"Add", "Store", "Do", "CompareAndSwap"} {
			first, _, _ := Method(x.t, name)
			before := slices.Clone(first)
			for i := range first {
				first[i] = null
			}
			if second, _, _ := Method(x.t, name); !slices.Equal(second, before) {
				t.Error(x.t, name, second)
			}
		}
	}
}
