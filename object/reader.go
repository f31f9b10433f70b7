package object

import "interleave/api"

// reader takes bytes from the front of the rest. Its methods panic where the bytes are malformed.
type reader struct {
	rest []byte
}

// read returns the program whose parts between the mark and the checksum are b. The program need not be valid.
func read(b []byte) (p api.Program, e api.Errno) {
	defer func() {
		if recover() != nil {
			p, e = api.Program{}, api.ErrForm
		}
	}()
	r := &reader{rest: b}
	p = r.program()
	if len(r.rest) > 0 {
		panic(api.ErrForm)
	}
	return p, api.OK
}

func (r *reader) program() api.Program {
	return api.Program{
		Globals: list(r, api.MaxGlobals, r.global),
		Layouts: list(r, api.MaxLayouts, r.layout),
		Funcs:   list(r, api.MaxFuncs, r.function),
		Main:    r.number(),
	}
}

func (r *reader) global() api.Global {
	return api.Global{Name: r.text(), Kind: r.number()}
}

func (r *reader) layout() []int {
	return list(r, api.MaxCells, r.number)
}

func (r *reader) function() api.Func {
	f := api.Func{Name: r.text(), Params: r.number(), Regs: r.number()}
	at := 0
	f.Code = list(r, api.MaxCode, func() api.Instr {
		in := api.Instr{Op: r.number(), A: r.number(), B: r.number(), C: r.number()}
		at += r.number()
		in.At = at
		return in
	})
	return f
}

// list reads a list. Of a list that is too long for a valid program, limit + 1 elements show that it is; without the others, a long
// list of tiny elements takes no more memory than its bytes.
func list[E any](r *reader, limit int, element func() E) []E {
	var l []E
	for range r.count() {
		if e := element(); len(l) <= limit {
			l = append(l, e)
		}
	}
	return l
}

func (r *reader) text() string {
	n := r.count()
	s := string(r.rest[:n])
	r.rest = r.rest[n:]
	return s
}

// count reads a number of elements or of bytes, each of which takes at least one byte.
func (r *reader) count() int {
	n := r.number()
	if n < 0 || n > len(r.rest) {
		panic(api.ErrForm)
	}
	return n
}

// number reads the encoding of a number, without groups that are not necessary.
func (r *reader) number() int {
	var n uint64
	for shift := 0; ; shift += 7 {
		group := r.group()
		if shift > 0 && group == 0 || shift == 63 && group > 1 {
			panic(api.ErrForm)
		}
		n |= uint64(group&0x7f) << shift
		if group < 0x80 {
			return signed(n)
		}
	}
}

// signed returns the number whose sign is the lowest bit of n.
func signed(n uint64) int {
	if n&1 == 1 {
		return ^int(n >> 1)
	}
	return int(n >> 1)
}

func (r *reader) group() byte {
	if len(r.rest) == 0 {
		panic(api.ErrForm)
	}
	c := r.rest[0]
	r.rest = r.rest[1:]
	return c
}
