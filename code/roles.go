package code

import "interleave/api"

// The roles of operands.
const (
	destination      = 'd'
	destinationOrNot = 'D' // a destination or -1
	source           = 's'
	sourceOrNot      = 'S' // a source or -1
	sourcePair       = 'p' // a source, as is the register behind it
	arguments        = 'a' // the first of the arguments for function B
	captures         = 'n' // the number of sources behind register A
	capture          = 'k' // the number of a captured value
	integer          = 'i'
	target           = 't'
	global           = 'g'
	layout           = 'l'
	function         = 'f'
	offset           = 'o'
	cases            = 'c'
	flag             = 'b'
	unused           = '-'
)

// roles returns the roles of the operands A, B and C of each operation.
func roles() [api.OpPrint + 1]string {
	return [...]string{
		api.OpConst: "di-", api.OpNil: "d--", api.OpMove: "ds-",
		api.OpAdd: "dss", api.OpSub: "dss", api.OpMul: "dss", api.OpDiv: "dss", api.OpRem: "dss",
		api.OpNeg: "ds-", api.OpNot: "ds-",
		api.OpEq: "dss", api.OpNe: "dss", api.OpLt: "dss", api.OpLe: "dss", api.OpLen: "ds-",
		api.OpJump: "--t", api.OpJumpZ: "s-t",
		api.OpGlobal: "dg-", api.OpField: "dso", api.OpIndex: "dss",
		api.OpNew: "dl-", api.OpSlice: "ds-", api.OpChan: "ds-", api.OpClosure: "dfn", api.OpCap: "dk-",
		api.OpCall: "Dfa", api.OpCallC: "s--", api.OpDefer: "-fa", api.OpDeferC: "s--", api.OpReturn: "S--",
		api.OpGo: "-fa", api.OpGoC: "s--",
		api.OpLoad: "ds-", api.OpStore: "ss-", api.OpALoad: "ds-", api.OpAStore: "ss-", api.OpAAdd: "dss", api.OpACas: "dsp",
		api.OpLock: "s--", api.OpUnlock: "s--", api.OpRLock: "s--", api.OpRUnlock: "s--",
		api.OpGroup: "ss-", api.OpWait: "s--", api.OpOnce: "s-t", api.OpOnceEnd: "s--",
		api.OpSend: "ss-", api.OpRecv: "DsD", api.OpClose: "s--", api.OpSelect: "dcb", api.OpCase: "sbD",
		api.OpPrint: "s--",
	}
}

// rolesOf returns the roles of the operands of an instruction, and none for an unknown operation. A case that sends reads its value.
func rolesOf(in api.Instr) string {
	all := roles()
	switch {
	case in.Op < 0 || in.Op >= len(all):
		return ""
	case in.Op == api.OpCase && in.B == 1:
		return "sbs"
	}
	return all[in.Op]
}

func operands(in api.Instr) [3]int { return [...]int{in.A, in.B, in.C} }
