package code

import (
	"strconv"
	"strings"

	"interleave/api"
)

// words are the words of the operations 1, 2, and so on.
const words = "const nil move add sub mul div rem neg not eq ne lt le len jump jumpz global field index new slice chan closure cap " +
	"call callc defer deferc return go goc load store aload astore aadd acas lock unlock rlock runlock group wait once onceend " +
	"send recv close select case print"

// writeCode writes a line for each instruction of a function.
func writeCode(b *strings.Builder, l []api.Instr) {
	all := strings.Fields(words)
	for pc, in := range l {
		word := "unknown"
		if in.Op >= 1 && in.Op <= len(all) {
			word = all[in.Op-1]
		}
		b.WriteString("\t" + strconv.Itoa(pc) + " " + word + decimals(used(in)...) + "\n")
	}
}

// used returns the operands of an instruction that have a role.
func used(in api.Instr) []int {
	var l []int
	values := operands(in)
	for i, role := range []byte(rolesOf(in)) {
		if role != unused {
			l = append(l, values[i])
		}
	}
	return l
}

// decimals writes numbers, with a blank before each of them.
func decimals(l ...int) string {
	var b strings.Builder
	for _, n := range l {
		b.WriteString(" " + strconv.Itoa(n))
	}
	return b.String()
}
