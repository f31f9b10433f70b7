package squeeze

import "interleave/api"

// operands are the names that an instruction reads and writes. They can be changed in the instruction.
type operands struct {
	reads, writes []*int
	row           *int // the first of some names that follow each other and are read
	count         int  // the number of names in the row
	gap           int  // 1 if the row begins behind the name in the instruction, which is written
}

// operandsOf returns the operands of an instruction, which is followed by its cases.
func (s *source) operandsOf(l []api.Instr) operands {
	in := &l[0]
	switch in.Op {
	case api.OpConst, api.OpNil, api.OpGlobal, api.OpNew, api.OpCap:
		return operands{writes: existing(&in.A)}
	case api.OpMove, api.OpNeg, api.OpNot, api.OpLen, api.OpField, api.OpSlice, api.OpChan, api.OpLoad, api.OpALoad:
		return operands{reads: existing(&in.B), writes: existing(&in.A)}
	case api.OpAdd, api.OpSub, api.OpMul, api.OpDiv, api.OpRem, api.OpEq, api.OpNe, api.OpLt, api.OpLe, api.OpIndex, api.OpAAdd:
		return operands{reads: existing(&in.B, &in.C), writes: existing(&in.A)}
	case api.OpStore, api.OpAStore, api.OpGroup, api.OpSend:
		return operands{reads: existing(&in.A, &in.B)}
	case api.OpRecv:
		return operands{reads: existing(&in.B), writes: existing(&in.A, &in.C)}
	case api.OpACas:
		return operands{reads: existing(&in.B), writes: existing(&in.A), row: &in.C, count: 2}
	case api.OpClosure:
		return operands{row: &in.A, count: in.C, gap: 1}
	case api.OpCall:
		return operands{writes: existing(&in.A), row: &in.C, count: s.params[in.B]}
	case api.OpDefer, api.OpGo:
		return operands{row: &in.C, count: s.params[in.B]}
	case api.OpSelect:
		return selectOperands(l)
	case api.OpJump:
		return operands{}
	}
	return operands{reads: existing(&in.A)}
}

func selectOperands(l []api.Instr) operands {
	o := operands{writes: existing(&l[0].A)}
	for i := range l[1:] {
		c := &l[i+1]
		o.reads = append(o.reads, &c.A)
		if c.B == 1 {
			o.reads = append(o.reads, &c.C)
		} else {
			o.writes = append(o.writes, existing(&c.C)...)
		}
	}
	return o
}

// existing returns those of some operands that are not -1.
func existing(l ...*int) []*int {
	var some []*int
	for _, x := range l {
		if *x >= 0 {
			some = append(some, x)
		}
	}
	return some
}

// read returns all names that are read.
func (o operands) read() []int {
	var l []int
	for _, x := range o.reads {
		l = append(l, *x)
	}
	for i := range o.count {
		l = append(l, *o.row+o.gap+i)
	}
	return l
}

// written returns all names that are written.
func (o operands) written() []int {
	var l []int
	for _, x := range o.writes {
		l = append(l, *x)
	}
	if o.gap == 1 {
		l = append(l, *o.row)
	}
	return l
}
