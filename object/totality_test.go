package object

import (
	"bytes"
	"math"
	"runtime"
	"slices"
	"strings"
	"testing"

	"interleave/api"
	"interleave/code"
)

// P1, P10.1: any bytes, with and without a mark and a checksum.
func TestAnyBytes(t *testing.T) {
	a := newAuthor(9)
	for range 50000 {
		b := make([]byte, a.IntN(40))
		for i := range b {
			b[i] = byte([]int{a.IntN(256), a.IntN(4), 0x80 + a.IntN(3), 0xff}[a.IntN(4)])
		}
		Sum(b)
		for _, x := range [][]byte{b, append([]byte("ilv1"), b...), sealed(string(b))} {
			q, e := Decode(x)
			if want, f := specifiedDecode(x); e != f || !code.Equal(q, want) {
				t.Fatalf("%q: %v %v, want %v", x, q, e, f)
			}
		}
	}
}

// P1, P10.1: numbers of elements and of bytes for which there are neither bytes nor memory.
func TestHugeNumbers(t *testing.T) {
	for _, before := range []string{"", "\x02", "\x00", "\x00\x02", "\x00\x00", "\x00\x00\x02", "\x00\x00\x02\x02f\x00\x00"} {
		for _, n := range []int{math.MaxInt, 1 << 62, 1 << 40, 1 << 31, 65536, 100, -1, math.MinInt} {
			for _, after := range []string{"", "\x00", strings.Repeat("\x00", 99), strings.Repeat("\x02x\x00", 30), strings.Repeat("\x80", 99)} {
				if q, e := Decode(sealed(before + specifiedNumber(n) + after)); e != api.ErrForm || !code.Equal(q, api.Program{}) {
					t.Errorf("%q %d %q: %v %v", before, n, after, q, e)
				}
			}
		}
	}
}

// P1, P10.1: long lists that are as described, or that lack one byte, or have one more.
func TestLongLists(t *testing.T) {
	const many = 1 << 18
	count := specifiedNumber(many)
	for _, parts := range [][3]string{
		{count, "\x02x\x00", "\x00\x00\x00"},
		{"\x00" + count, "\x00", "\x00\x00"},
		{"\x00\x02" + count, "\x00", "\x00\x00"},
		{"\x00\x00" + count, "\x02f\x00\x00\x00", "\x00"},
		{"\x00\x00\x02\x02f\x00\x00" + count, "\x3c\x01\x00\x00\x00", "\x00"},
	} {
		body := parts[0] + strings.Repeat(parts[1], many) + parts[2]
		for more, want := range map[string]api.Errno{body: api.ErrArg, body + "\x00": api.ErrForm, body[:len(body)-1]: api.ErrForm, body[1:]: api.ErrForm} {
			if q, e := Decode(sealed(more)); e != want || !code.Equal(q, api.Program{}) {
				t.Errorf("%q: %v %v", parts, e, want)
			}
		}
	}
	if b, e := Encode(full(1, many, 0, 0, 0)); e != api.ErrArg || b != nil {
		t.Error(len(b), e)
	}
}

// P1: the memory for a program with many elements does not exceed that of its bytes many times.
func TestMemoryOfLongLists(t *testing.T) {
	const many = 1 << 22
	b := sealed("\x00" + specifiedNumber(many) + strings.Repeat("\x00", many) + "\x00\x00")
	var before, after runtime.MemStats
	runtime.ReadMemStats(&before)
	_, e := Decode(b)
	runtime.ReadMemStats(&after)
	if used := after.TotalAlloc - before.TotalAlloc; e != api.ErrArg || used > many {
		t.Error(used, e)
	}
}

// Rule 5 of the document: arguments are not modified, with their spare capacity, and results share no memory.
func TestMemory(t *testing.T) {
	for _, p := range programs(300, 10) {
		for i, f := range p.Funcs {
			spare := append(slices.Clone(f.Code), leave(7), leave(8))
			p.Funcs[i].Code = spare[:len(f.Code)]
		}
		form := specifiedForm(p)
		b, _ := Encode(p)
		clear(b)
		b, _ = Encode(p)
		if !bytes.Equal(b, form) || !bytes.Equal(specifiedForm(p), form) {
			t.Fatalf("%v: %q", p, b)
		}
		for _, f := range p.Funcs {
			if spare := f.Code[:len(f.Code)+2]; spare[len(f.Code)] != leave(7) || spare[len(f.Code)+1] != leave(8) {
				t.Fatal("spare capacity")
			}
		}
		checkMemoryOfDecode(t, p, form)
	}
}

// checkMemoryOfDecode decodes the front part of a longer slice, and changes the bytes and one of the results.
func checkMemoryOfDecode(t *testing.T, p api.Program, form []byte) {
	t.Helper()
	long := append(slices.Clone(form), "ilv1"...)
	Sum(long[:len(form)])
	q, _ := Decode(long[:len(form)])
	other, _ := Decode(long[:len(form)])
	if string(long) != string(form)+"ilv1" {
		t.Fatal("the bytes are modified")
	}
	clear(long)
	for i := range other.Funcs {
		clear(other.Funcs[i].Code)
	}
	for i := range other.Layouts {
		clear(other.Layouts[i])
	}
	clear(other.Globals)
	clear(other.Funcs)
	if !code.Equal(p, q) {
		t.Fatalf("%v: %v", p, q)
	}
}

// Rule 6 of the document: no state is kept between calls, also after errors.
func TestNoState(t *testing.T) {
	l := programs(20, 11)
	for i, p := range l {
		form := specifiedForm(p)
		for _, b := range [][]byte{form[:len(form)-1], sealed(string(form[4 : len(form)-5])), sealed("\x00\x00\x00\x00"), specifiedForm(l[len(l)-1-i]), form} {
			q, e := Decode(b)
			if want, f := specifiedDecode(b); e != f || !code.Equal(q, want) {
				t.Fatalf("%q: %v %v", b, q, e)
			}
		}
	}
}
