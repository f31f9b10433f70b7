package object

import "interleave/api"

// appendProgram appends the parts of a program between the mark and the checksum.
func appendProgram(b []byte, p api.Program) []byte {
	b = appendNumber(b, len(p.Globals))
	for _, g := range p.Globals {
		b = appendText(b, g.Name)
		b = appendNumber(b, g.Kind)
	}
	b = appendNumber(b, len(p.Layouts))
	for _, l := range p.Layouts {
		b = appendNumber(b, len(l))
		b = appendNumbers(b, l...)
	}
	b = appendNumber(b, len(p.Funcs))
	for _, f := range p.Funcs {
		b = appendFunc(b, f)
	}
	return appendNumber(b, p.Main)
}

func appendFunc(b []byte, f api.Func) []byte {
	b = appendText(b, f.Name)
	b = appendNumbers(b, f.Params, f.Regs, len(f.Code))
	at := 0
	for _, in := range f.Code {
		b = appendNumbers(b, in.Op, in.A, in.B, in.C, in.At-at)
		at = in.At
	}
	return b
}

func appendText(b []byte, s string) []byte {
	return append(appendNumber(b, len(s)), s...)
}

func appendNumbers(b []byte, l ...int) []byte {
	for _, n := range l {
		b = appendNumber(b, n)
	}
	return b
}

// appendNumber appends the encoding of a number. The sign takes the lowest bit, so that numbers near 0 have few groups.
func appendNumber(b []byte, n int) []byte {
	rest := uint64(n) << 1
	if n < 0 {
		rest = ^rest
	}
	for ; rest >= 0x80; rest >>= 7 {
		b = append(b, byte(rest)|0x80)
	}
	return append(b, byte(rest))
}

func appendSum(b []byte, sum uint32) []byte {
	return append(b, byte(sum>>24), byte(sum>>16), byte(sum>>8), byte(sum))
}
