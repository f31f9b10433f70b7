package object

import (
	"bytes"
	"encoding/binary"
	"hash/fnv"
	"math/big"
	"slices"
	"strings"

	"interleave/api"
	"interleave/code"
)

// The roles of the pieces of a binary form between the mark and the checksum.
const (
	amount  = iota // a number of elements or of bytes
	number         // any other number
	content        // the bytes of a string
)

// piece is a piece of a binary form, with the program's number that it stands for.
type piece struct {
	role int
	n    int
	text string
}

func amountPiece(n int) piece { return piece{amount, n, specifiedNumber(n)} }

func numberPiece(n int) piece { return piece{number, n, specifiedNumber(n)} }

// specifiedNumber returns the encoding of a number, computed with integers without limits.
func specifiedNumber(n int) string {
	v := big.NewInt(int64(n))
	v.Mul(v, big.NewInt(2))
	if n < 0 {
		v.Add(v.Neg(v), big.NewInt(-1))
	}
	return string(groupsOf(v))
}

// groupsOf returns the groups of seven bits of a number that is not negative.
func groupsOf(v *big.Int) []byte {
	var l []byte
	for l == nil || v.Sign() > 0 {
		rest := new(big.Int)
		v, rest = new(big.Int).DivMod(v, big.NewInt(128), rest)
		l = append(l, byte(rest.Int64())+128)
	}
	l[len(l)-1] -= 128
	return l
}

// pieces returns the binary form of a program, valid or not, without the mark and the checksum.
func pieces(p api.Program) []piece {
	l := []piece{amountPiece(len(p.Globals))}
	str := func(s string) { l = append(l, amountPiece(len(s)), piece{role: content, text: s}) }
	for _, g := range p.Globals {
		str(g.Name)
		l = append(l, numberPiece(g.Kind))
	}
	l = append(l, amountPiece(len(p.Layouts)))
	for _, kinds := range p.Layouts {
		l = append(l, amountPiece(len(kinds)))
		for _, kind := range kinds {
			l = append(l, numberPiece(kind))
		}
	}
	l = append(l, amountPiece(len(p.Funcs)))
	for _, f := range p.Funcs {
		str(f.Name)
		l = append(l, numberPiece(f.Params), numberPiece(f.Regs), amountPiece(len(f.Code)))
		for i, in := range f.Code {
			before := 0
			if i > 0 {
				before = f.Code[i-1].At
			}
			l = append(l, numberPiece(in.Op), numberPiece(in.A), numberPiece(in.B), numberPiece(in.C), numberPiece(in.At-before))
		}
	}
	return append(l, numberPiece(p.Main))
}

func joined(l []piece) string {
	var b strings.Builder
	for _, x := range l {
		b.WriteString(x.text)
	}
	return b.String()
}

// sealed returns the mark, a body and the checksum of both.
func sealed(body string) []byte {
	b := []byte("ilv1" + body)
	h := fnv.New32a()
	h.Write(b)
	return binary.BigEndian.AppendUint32(b, h.Sum32())
}

// specifiedForm returns the binary form of a program, valid or not.
func specifiedForm(p api.Program) []byte { return sealed(joined(pieces(p))) }

// lenient reads a body in which numbers may have more groups than necessary. It is not ok where the bytes end too early or a number is
// too large. Once it is not ok, all that it returns is empty.
type lenient struct {
	rest string
	ok   bool
}

func (r *lenient) number() int {
	v := new(big.Int)
	for i := uint(0); r.ok; i++ {
		if r.rest == "" {
			r.ok = false
			break
		}
		c := r.rest[0]
		r.rest = r.rest[1:]
		v.Add(v, new(big.Int).Lsh(big.NewInt(int64(c%128)), 7*i))
		if c < 128 {
			break
		}
	}
	odd := v.Bit(0) == 1
	v.Rsh(v, 1)
	if odd {
		v.Neg(v.Add(v, big.NewInt(1)))
	}
	if !v.IsInt64() {
		r.ok = false
		return 0
	}
	return int(v.Int64())
}

func (r *lenient) text() string {
	n := r.number()
	if n < 0 || n > len(r.rest) {
		r.ok = false
		return ""
	}
	s := r.rest[:n]
	r.rest = r.rest[n:]
	return s
}

// repeat calls read as often as the number says that it reads, as long as all is ok.
func (r *lenient) repeat(read func()) {
	n := r.number()
	r.ok = r.ok && n >= 0
	for i := 0; i < n && r.ok; i++ {
		read()
	}
}

func (r *lenient) program() api.Program {
	var p api.Program
	r.repeat(func() {
		name := r.text()
		p.Globals = append(p.Globals, api.Global{Name: name, Kind: r.number()})
	})
	r.repeat(func() {
		var kinds []int
		r.repeat(func() { kinds = append(kinds, r.number()) })
		p.Layouts = append(p.Layouts, kinds)
	})
	r.repeat(func() {
		f := api.Func{Name: r.text()}
		f.Params = r.number()
		f.Regs = r.number()
		r.repeat(func() {
			var l [5]int
			for i := range l {
				l[i] = r.number()
			}
			if n := len(f.Code); n > 0 {
				l[4] += f.Code[n-1].At
			}
			f.Code = append(f.Code, api.Instr{Op: l[0], A: l[1], B: l[2], C: l[3], At: l[4]})
		})
		p.Funcs = append(p.Funcs, f)
	})
	p.Main = r.number()
	return p
}

// specifiedDecode decodes bytes. They are as described if they are the binary form of what a lenient reader finds in them.
func specifiedDecode(b []byte) (api.Program, api.Errno) {
	if len(b) < 8 || string(b[:4]) != "ilv1" {
		return api.Program{}, api.ErrForm
	}
	body := string(b[4 : len(b)-4])
	if !slices.Equal(b, sealed(body)) {
		return api.Program{}, api.ErrSum
	}
	r := &lenient{rest: body, ok: true}
	p := r.program()
	if !r.ok || !bytes.Equal(b, specifiedForm(p)) {
		return api.Program{}, api.ErrForm
	}
	if !code.Valid(p) {
		return api.Program{}, api.ErrArg
	}
	return p, api.OK
}
