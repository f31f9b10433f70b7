package object

import (
	"hash/fnv"
	"math"
	"strings"
	"testing"

	"interleave/api"
	"interleave/code"
)

// P10.1: the checksums of the example, and of texts whose checksums are known.
func TestSum(t *testing.T) {
	for s, want := range map[string]uint32{
		"": 0x811c9dc5, "a": 0xe40c292c, "b": 0xe70c2de5, "fo": 0x6222e842, "foo": 0xa9f37ed7, "foobar": 0xbf9cf968, "\x00": 0x050c5d1f,
	} {
		if got := Sum([]byte(s)); got != want {
			t.Errorf("%q: %x, want %x", s, got, want)
		}
	}
	if Sum(nil) != 0x811c9dc5 {
		t.Error("no bytes")
	}
	var l []byte
	for i := range 2000 {
		l = append(l, byte(i*i>>3))
		h := fnv.New32a()
		h.Write(l)
		if got := Sum(l); got != h.Sum32() {
			t.Fatalf("%d bytes: %x, want %x", len(l), got, h.Sum32())
		}
	}
}

// P10.1: the encodings of the example, and those around each number of groups.
func TestNumbers(t *testing.T) {
	for n, want := range map[int]string{
		0: "\x00", -1: "\x01", 1: "\x02", -2: "\x03", 2: "\x04",
		63: "\x7e", -64: "\x7f", 64: "\x80\x01", -65: "\x81\x01", 127: "\xfe\x01", 128: "\x80\x02",
		8191: "\xfe\x7f", -8192: "\xff\x7f", 8192: "\x80\x80\x01", -8193: "\x81\x80\x01",
		1<<55 - 1: "\xfe" + strings.Repeat("\xff", 6) + "\x7f", -1 << 55: strings.Repeat("\xff", 7) + "\x7f",
		1 << 55:       strings.Repeat("\x80", 8) + "\x01",
		1<<62 - 1:     "\xfe" + strings.Repeat("\xff", 7) + "\x7f",
		-1 << 62:      strings.Repeat("\xff", 8) + "\x7f",
		1 << 62:       strings.Repeat("\x80", 9) + "\x01",
		-1<<62 - 1:    "\x81" + strings.Repeat("\x80", 8) + "\x01",
		math.MaxInt:   "\xfe" + strings.Repeat("\xff", 8) + "\x01",
		math.MinInt:   strings.Repeat("\xff", 9) + "\x01",
		math.MaxInt32: "\xfe\xff\xff\xff\x0f",
	} {
		if got := specifiedNumber(n); got != want {
			t.Errorf("%d: %q, want %q", n, got, want)
		}
		p := with(api.Instr{Op: api.OpConst, B: n}, leave(0))
		b, e := Encode(p)
		if e != api.OK || string(b) != string(sealed("\x00\x00\x02\x08main\x00\x04\x04\x02\x00"+want+"\x00\x00\x3c\x01\x00\x00\x00\x00")) {
			t.Errorf("%d: %q %v", n, b, e)
		}
		if q, e := Decode(b); e != api.OK || !code.Equal(p, q) {
			t.Errorf("%d: %v %v", n, q, e)
		}
	}
}

// P10.1: a program with all parts, whose bytes are written out.
func TestForm(t *testing.T) {
	p := api.Program{
		Globals: []api.Global{{Name: "x", Kind: api.CellRef}, {Name: "\xff\x00", Kind: api.CellInt}},
		Layouts: [][]int{{0, 1}, nil, {1}},
		Funcs: []api.Func{
			{Name: "f", Params: 1, Regs: 2, Code: []api.Instr{{Op: api.OpReturn, A: 1, At: 7}}},
			{Name: "main", Regs: 3, Code: []api.Instr{
				{Op: api.OpConst, A: 2, B: -70, At: 40}, {Op: api.OpCall, A: -1, C: 2, At: 39},
				{Op: api.OpSelect, A: 1, B: 1, C: 1, At: math.MaxInt}, {Op: api.OpCase, A: 1, C: -1}, {Op: api.OpJump, C: 2, At: 1},
			}},
		},
		Main: 1,
	}
	want := "ilv1" +
		"\x04" + "\x02x\x02" + "\x04\xff\x00\x00" +
		"\x06" + "\x04\x00\x02" + "\x00" + "\x02\x02" +
		"\x04" + "\x02f\x02\x04\x02" + "\x3c\x02\x00\x00\x0e" +
		"\x08main\x00\x06\x0a" + "\x02\x04\x8b\x01\x00\x50" + "\x34\x01\x00\x04\x01" +
		"\x64\x02\x02\x02\xb0\xff\xff\xff\xff\xff\xff\xff\xff\x01" + "\x66\x02\x00\x01\xfd\xff\xff\xff\xff\xff\xff\xff\xff\x01" + "\x20\x00\x00\x04\x02" +
		"\x02" + "\x3d\xba\x48\x9d"
	b, e := Encode(p)
	if e != api.OK || string(b) != want {
		t.Errorf("%q %v, want\n%q", b, e, want)
	}
	q, e := Decode([]byte(want))
	if e != api.OK || !code.Equal(p, q) {
		t.Errorf("%v %v", q, e)
	}
}

// P10.1: programs that are not valid have no binary form, and what looks like one is answered by ErrArg.
func TestInvalidPrograms(t *testing.T) {
	main := with(leave(0)).Funcs
	for name, p := range map[string]api.Program{
		"no function":               {},
		"no main":                   {Funcs: main, Main: 1},
		"a negative main":           {Funcs: main, Main: -1},
		"a function without name":   {Funcs: []api.Func{{Code: main[0].Code}}},
		"a function without code":   {Funcs: []api.Func{{Name: "main"}}},
		"main with parameters":      {Funcs: []api.Func{{Name: "main", Params: 1, Regs: 1, Code: main[0].Code}}},
		"a negative number":         {Funcs: []api.Func{{Name: "main", Params: -1, Code: main[0].Code}}},
		"many registers":            {Funcs: []api.Func{{Name: "main", Regs: 65, Code: main[0].Code}}},
		"two functions of one name": {Funcs: append(main, main...)},
		"two variables of one name": {Funcs: main, Globals: []api.Global{{Name: "x"}, {Name: "x"}}},
		"a variable without name":   {Funcs: main, Globals: []api.Global{{}}},
		"a variable without kind":   {Funcs: main, Globals: []api.Global{{Name: "x", Kind: 2}}},
		"a cell without kind":       {Funcs: main, Layouts: [][]int{{0, -1}}},
		"an unknown operation":      with(api.Instr{Op: api.OpPrint + 1}, leave(0)),
		"an operand out of range":   with(api.Instr{Op: api.OpNil, A: 2}, leave(0)),
		"no end":                    with(api.Instr{Op: api.OpNil}),
		"a negative offset":         with(leave(-1)),
		"a late negative offset":    with(leave(5), leave(math.MinInt)),
	} {
		checkInvalid(t, name, p)
	}
}

// checkInvalid requires that a program which is not valid cannot be encoded, and that no bytes stand for it.
func checkInvalid(t *testing.T, name string, p api.Program) {
	t.Helper()
	if b, e := Encode(p); e != api.ErrArg || b != nil {
		t.Errorf("%s: %q %v", name, b, e)
	}
	if q, e := Decode(specifiedForm(p)); e != api.ErrArg || !code.Equal(q, api.Program{}) {
		t.Errorf("%s: %v %v", name, q, e)
	}
}

// P10.1, P10.2: programs of the greatest size, and of one more.
func TestLimits(t *testing.T) {
	limits := [5]int{api.MaxFuncs, api.MaxCode, api.MaxGlobals, api.MaxLayouts, api.MaxCells}
	make := func(l [5]int) api.Program { return full(l[0], l[1], l[2], l[3], l[4]) }
	p := make(limits)
	b, e := Encode(p)
	if e != api.OK || string(b) != string(specifiedForm(p)) {
		t.Fatal(len(b), e)
	}
	if q, e := Decode(b); e != api.OK || !code.Equal(p, q) {
		t.Fatal(e)
	}
	for i := range limits {
		l := [5]int{2, 3, 2, 2, 2}
		for _, more := range []int{1, 2, 100} {
			l[i] = limits[i] + more
			checkInvalid(t, "too many", make(l))
		}
	}
}

// P10.1: the first error that applies.
func TestErrors(t *testing.T) {
	form := string(specifiedForm(with(leave(3))))
	body := form[4 : len(form)-4]
	for _, c := range []struct {
		name, b string
		want    api.Errno
	}{
		{"a binary form", form, api.OK},
		{"no bytes", "", api.ErrForm},
		{"4 bytes", "ilv1", api.ErrForm},
		{"7 bytes", form[:7], api.ErrForm},
		{"7 bytes and a checksum", string(sealed(""))[1:], api.ErrForm},
		{"8 bytes with a wrong checksum", form[:8], api.ErrSum},
		{"8 bytes with their checksum", string(sealed("")), api.ErrForm},
		{"no mark", "ilv2" + form[4:], api.ErrForm},
		{"8 bytes without mark", "ilv0\x00\x00\x00\x00", api.ErrForm},
		{"no mark, with its checksum", string(sealed("x"))[1:], api.ErrForm},
		{"an uppercase mark", "Ilv1" + form[4:], api.ErrForm},
		{"a short mark", "ilv" + form[4:], api.ErrForm},
		{"a late mark", "x" + form, api.ErrForm},
		{"malformed bytes and a wrong checksum", "ilv1\xff\xff\xff\xff\xff\x00", api.ErrSum},
		{"the checksum of a program that is not valid", "ilv1\x00\x00\x00\x00\x00\x00\x00\x00", api.ErrSum},
		{"additional bytes behind the checksum", form + "\x00", api.ErrSum},
		{"the checksum in the reverse order", form[:len(form)-4] + reversed(form[len(form)-4:]), api.ErrSum},
		{"no checksum", form[:len(form)-4], api.ErrSum},
		{"an additional byte", string(sealed(body + "\x00")), api.ErrForm},
		{"a missing byte", string(sealed(body[:len(body)-1])), api.ErrForm},
		{"a program without functions", string(sealed("\x00\x00\x00\x00")), api.ErrArg},
		{"a program without functions and an additional byte", string(sealed("\x00\x00\x00\x00\x00")), api.ErrForm},
		{"a program without functions and Main", string(sealed("\x00\x00\x00")), api.ErrForm},
		{"a program without functions, with a long number", string(sealed("\x00\x00\x00\x80\x00")), api.ErrForm},
		{"a program without functions, with a large Main", string(sealed("\x00\x00\x00\xff\xff\xff\xff\xff\xff\xff\xff\xff\x01")), api.ErrArg},
		{"a program without functions, with a Main that is too large", string(sealed("\x00\x00\x00\xff\xff\xff\xff\xff\xff\xff\xff\xff\x02")), api.ErrForm},
	} {
		p, e := Decode([]byte(c.b))
		if e != c.want || e != api.OK && !code.Equal(p, api.Program{}) {
			t.Errorf("%s: %v %v, want %v", c.name, p, e, c.want)
		}
	}
}

func reversed(s string) string {
	var l []byte
	for i := range len(s) {
		l = append(l, s[len(s)-1-i])
	}
	return string(l)
}

// P10.1: each number of a program, replaced by malformed and by unusual ones.
func TestPieces(t *testing.T) {
	p := api.Program{Globals: []api.Global{{Name: "x"}, {Name: "yy", Kind: 1}}, Layouts: [][]int{{1, 0}, {}}, Funcs: with(api.Instr{Op: api.OpConst, B: 64, At: 5}, leave(2)).Funcs}
	l := pieces(p)
	try := func(i int, text string) api.Errno {
		before := l[i].text
		l[i].text = text
		b := sealed(joined(l))
		l[i].text = before
		q, e := Decode(b)
		if want, f := specifiedDecode(b); e != f || !code.Equal(q, want) {
			t.Errorf("piece %d as %q: %v %v, want %v", i, text, q, e, f)
		}
		return e
	}
	malformed := func(i int, text string) {
		if e := try(i, text); e != api.ErrForm {
			t.Errorf("piece %d as %q: %v", i, text, e)
		}
	}
	for i, x := range l {
		if x.role == content {
			continue
		}
		if e := try(i, x.text); e != api.OK {
			t.Fatal(e)
		}
		last := len(x.text) - 1
		longer := x.text[:last] + string([]byte{x.text[last] | 0x80})
		try(i, "")
		malformed(i, longer+"\x00")
		malformed(i, longer+"\x80\x00")
		malformed(i, longer+strings.Repeat("\x80", 8-last)+"\x00")
		malformed(i, longer+strings.Repeat("\x80", 9-last)+"\x00")
		malformed(i, longer+strings.Repeat("\x80", 100)+"\x00")
		for _, tenth := range []string{"\x00", "\x02", "\x03", "\x7f", "\x80\x00", "\x81\x00", "\x81\x01", "\xff\x01"} {
			malformed(i, strings.Repeat("\x80", 9)+tenth)
			malformed(i, strings.Repeat("\xff", 9)+tenth)
		}
		for _, n := range extremes {
			if x.role == amount && (n < 0 || n > 64) {
				malformed(i, specifiedNumber(n))
			} else if e := try(i, specifiedNumber(n)); x.role == number && e == api.ErrForm {
				t.Errorf("piece %d as %d: %v", i, n, e)
			}
		}
	}
}
