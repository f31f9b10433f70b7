package object

import (
	"bytes"
	"slices"
	"strings"
	"testing"

	"interleave/api"
	"interleave/code"
)

// P10.1, P10.2: random valid programs have their binary form, which is decoded without loss.
func TestPromiseOfRoundTrip(t *testing.T) {
	count := map[int]int{}
	for _, p := range programs(3000, 1) {
		b, e := Encode(p)
		if e != api.OK || !bytes.Equal(b, specifiedForm(p)) {
			t.Fatalf("%v: %q %v", p, b, e)
		}
		q, e := Decode(b)
		if e != api.OK || !code.Equal(p, q) {
			t.Fatalf("%v: %v %v", p, q, e)
		}
		if c, e := Encode(q); e != api.OK || !bytes.Equal(b, c) {
			t.Fatalf("%v: %q %q %v", p, b, c, e)
		}
		for _, f := range p.Funcs {
			for _, in := range f.Code {
				count[in.Op]++
			}
		}
	}
	for op := api.OpConst; op <= api.OpPrint; op++ {
		if count[op] < 20 {
			t.Error(op, count[op])
		}
	}
}

// P10.2: different programs have different binary forms, as each is decoded to its own; bytes that are decoded are encoded again.
func TestPromiseOfDifferentForms(t *testing.T) {
	seen := map[string]api.Program{}
	for _, p := range programs(3000, 2) {
		b, _ := Encode(p)
		if q, ok := seen[string(b)]; ok && !code.Equal(p, q) {
			t.Fatalf("%v and %v: %q", p, q, b)
		}
		seen[string(b)] = p
	}
	if len(seen) < 2000 {
		t.Error(len(seen))
	}
}

// P10.3: no bytes that differ from a binary form in exactly one byte can be decoded.
func TestPromiseOfCorruption(t *testing.T) {
	for _, p := range slices.Concat([]api.Program{with(leave(0))}, programs(25, 3)) {
		b, _ := Encode(p)
		for i := range min(len(b), 1500) {
			right := b[i]
			for wrong := range 256 {
				b[i] = byte(wrong)
				want := api.ErrSum
				switch {
				case b[i] == right:
					want = api.OK
				case i < 4:
					want = api.ErrForm
				}
				if q, e := Decode(b); e != want || e != api.OK && !code.Equal(q, api.Program{}) {
					t.Fatalf("%q: byte %d as %d: %v %v", b, i, wrong, q, e)
				}
			}
			b[i] = right
		}
	}
}

// P10.3: no proper prefix of a binary form can be decoded.
func TestPromiseOfPrefixes(t *testing.T) {
	for _, p := range slices.Concat([]api.Program{with(leave(0))}, programs(200, 4)) {
		b, _ := Encode(p)
		for n := range len(b) {
			want := api.ErrSum
			if n < 8 {
				want = api.ErrForm
			}
			if q, e := Decode(b[:n]); e != want || !code.Equal(q, api.Program{}) {
				t.Fatalf("%q: %v %v", b[:n], q, e)
			}
		}
	}
}

// P10.1, P10.3: a part of the body with its own checksum is malformed.
func TestSealedPrefixes(t *testing.T) {
	for _, p := range programs(200, 5) {
		b, _ := Encode(p)
		body := string(b[4 : len(b)-4])
		for n := range min(len(body), 1500) {
			if q, e := Decode(sealed(body[:n])); e != api.ErrForm || !code.Equal(q, api.Program{}) {
				t.Fatalf("%q: %v %v", body[:n], q, e)
			}
		}
	}
}

// change returns a body with one change.
func (a author) change(body string) string {
	i := a.IntN(len(body) + 1)
	some := []string{"\x00", "\x01", "\x02", "\x80", "\xff", "\x80\x00", "\x80\x01", specifiedNumber(a.extreme()), string([]byte{byte(a.IntN(256))})}
	piece := some[a.IntN(len(some))]
	switch j := min(i+a.IntN(3), len(body)); a.IntN(4) {
	case 0:
		return body[:i] + body[j:]
	case 1:
		return body[:i] + piece + body[i:]
	case 2:
		return body[:i] + piece + body[j:]
	default:
		return body[:i] + body[i:j] + body[i:j] + body[j:]
	}
}

// P10.1, P10.2: changed bodies with their checksum have the specified results; what can be decoded is encoded to the same bytes.
func TestChangedBodies(t *testing.T) {
	a := newAuthor(6)
	count := map[api.Errno]int{}
	for _, p := range programs(30000, 7) {
		body := joined(pieces(p))
		for range a.IntN(2) + 1 {
			body = a.change(body)
		}
		b := sealed(body)
		q, e := Decode(b)
		if want, f := specifiedDecode(b); e != f || !code.Equal(q, want) {
			t.Fatalf("%q: %v %v, want %v %v", b, q, e, want, f)
		}
		if e == api.OK {
			if c, e := Encode(q); e != api.OK || !bytes.Equal(b, c) {
				t.Fatalf("%q: %q %v", b, c, e)
			}
		}
		count[e]++
	}
	if count[api.OK] < 1000 || count[api.ErrForm] < 5000 || count[api.ErrArg] < 1000 {
		t.Error(count)
	}
}

// P10.1: programs with any numbers: exactly the valid ones have a binary form.
func TestAnyPrograms(t *testing.T) {
	a := newAuthor(8)
	valid := 0
	for i := range 20000 {
		p := a.anyProgram()
		if i%4 == 0 {
			p = a.program()
			p.Main += a.IntN(3) - 1
		}
		want := api.ErrArg
		if code.Valid(p) {
			want = api.OK
			valid++
		}
		form := specifiedForm(p)
		b, e := Encode(p)
		if e != want || e == api.OK && !bytes.Equal(b, form) || e != api.OK && b != nil {
			t.Fatalf("%v: %q %v", p, b, e)
		}
		q, e := Decode(form)
		if e != want || e == api.OK && !code.Equal(p, q) || e != api.OK && !code.Equal(q, api.Program{}) {
			t.Fatalf("%v: %v %v", p, q, e)
		}
	}
	if valid < 500 {
		t.Error(valid)
	}
}

// P10.1: all small bodies over some bytes.
func TestSmallBodies(t *testing.T) {
	letters := "\x00\x01\x02\x80\xff"
	bodies := []string{""}
	for range 6 {
		var longer []string
		for _, s := range bodies {
			b := sealed(s)
			q, e := Decode(b)
			if want, f := specifiedDecode(b); e != f || !code.Equal(q, want) {
				t.Fatalf("%q: %v %v, want %v", s, q, e, f)
			}
			for _, c := range []byte(letters) {
				longer = append(longer, s+string([]byte{c}))
			}
		}
		bodies = longer
	}
}

// P10.1: names may have any bytes, and any length.
func TestNames(t *testing.T) {
	for _, n := range []int{1, 63, 64, 65, 127, 128, 8191, 8192, 1 << 20} {
		p := with(leave(0))
		p.Funcs[0].Name = strings.Repeat("\x80\xff\x00", n)[:n]
		p.Globals = []api.Global{{Name: p.Funcs[0].Name}}
		b, e := Encode(p)
		if e != api.OK || !bytes.Equal(b, specifiedForm(p)) {
			t.Fatal(n, e)
		}
		if q, e := Decode(b); e != api.OK || !code.Equal(p, q) {
			t.Fatal(n, e)
		}
	}
}
