package syntax

import (
	"slices"
	"strconv"
	"strings"

	"interleave/api"
)

// row describes the nodes of a kind as the chapter's table does. The text is empty, "name" or a list of words. Each word of
// children is a set of kinds: alternatives are separated by |, and a set that ends with * or ? may occur any number of times, or
// need not occur.
type row struct {
	kind           int
	text, children string
}

const (
	binaryOperators = "|| && == != < <= > >= + - * / %"
	typeTexts       = "int bool []int chan func mutex rwmutex group once atomic"
)

var table = []row{
	{api.NFile, "", "declaration*"},
	{api.NStruct, "name", "field*"},
	{api.NField, "name", "type"},
	{api.NFunc, "name", "params type|none block"},
	{api.NParams, "", "field*"},
	{api.NVar, "name", "type expression|none"},
	{api.NBlock, "", "statement*"},
	{api.NDefine, "name", "expression"},
	{api.NAssign, "", "expression expression"},
	{api.NExpr, "", "call|receive"},
	{api.NGo, "", "call"},
	{api.NDefer, "", "call"},
	{api.NSend, "", "expression expression"},
	{api.NClose, "", "expression"},
	{api.NPrint, "", "expression"},
	{api.NIf, "", "expression block block|if|none"},
	{api.NFor, "", "expression|none block"},
	{api.NReturn, "", "expression?"},
	{api.NSelect, "", "case*"},
	{api.NCase, "", "communication|none block"},
	{api.NMember, "name", "expression"},
	{api.NIndex, "", "expression expression"},
	{api.NCall, "", "expression expression*"},
	{api.NUnary, "- !", "expression"},
	{api.NBinary, binaryOperators, "expression expression"},
	{api.NReceive, "", "expression"},
	{api.NSlice, "", "expression"},
	{api.NChan, "", "expression"},
	{api.NLen, "", "expression"},
	{api.NName, "name", ""},
	{api.NNew, "name", ""},
	{api.NInt, "", ""},
	{api.NBool, "", ""},
	{api.NNil, "", ""},
	{api.NNone, "", ""},
	{api.NLiteral, "", "block"},
	{api.NType, typeTexts, ""},
	{api.NPointer, "name", ""},
}

// sets are the kinds of each set.
var sets = map[string][]int{
	"declaration":   {api.NStruct, api.NVar, api.NFunc},
	"field":         {api.NField},
	"params":        {api.NParams},
	"type":          {api.NType, api.NPointer},
	"none":          {api.NNone},
	"block":         {api.NBlock},
	"call":          {api.NCall},
	"receive":       {api.NReceive},
	"if":            {api.NIf},
	"case":          {api.NCase},
	"communication": {api.NSend, api.NExpr, api.NAssign, api.NDefine},
	"statement":     {api.NVar, api.NBlock, api.NDefine, api.NAssign, api.NExpr, api.NGo, api.NDefer, api.NSend, api.NClose, api.NPrint, api.NIf, api.NFor, api.NReturn, api.NSelect},
	"expression":    {api.NMember, api.NIndex, api.NCall, api.NUnary, api.NBinary, api.NReceive, api.NSlice, api.NChan, api.NLen, api.NName, api.NNew, api.NInt, api.NBool, api.NNil, api.NLiteral},
}

var reserved = strings.Fields("type struct var func if else for return go defer select case default chan new make len true false nil print close int bool mutex rwmutex group once atomic")

// rowOf returns the row of a kind.
func rowOf(kind int) (row, bool) {
	i := slices.IndexFunc(table, func(r row) bool { return r.kind == kind })
	if i < 0 {
		return row{}, false
	}
	return table[i], true
}

// isNamed reports whether s is a name of layer 2, by its definition.
func isNamed(s string) bool {
	const letters = "ABCDEFGHIJKLMNOPQRSTUVWXYZabcdefghijklmnopqrstuvwxyz_"
	starts := s != "" && strings.Contains(letters, s[:1])
	return starts && len(s) <= 32 && strings.Trim(s, letters+"0123456789") == "" && !slices.Contains(reserved, s)
}

// receives reports whether the child of n with this index is an NReceive.
func receives(n api.Node, index int) bool {
	return index < len(n.Kids) && n.Kids[index].Kind == api.NReceive
}

// inSet reports whether a node may stand where a set is required. It includes what the table says in words.
func inSet(n api.Node, set string) bool {
	if !slices.Contains(sets[set], n.Kind) {
		return false
	}
	switch {
	case set == "declaration" && n.Kind == api.NVar:
		return len(n.Kids) == 2 && n.Kids[1].Kind == api.NNone
	case set == "communication" && n.Kind == api.NAssign:
		return receives(n, 1)
	case set == "communication" && n.Kind != api.NSend:
		return receives(n, 0)
	}
	return true
}

// matches reports whether a list of children has the form that these words describe.
func matches(l []api.Node, words []string) bool {
	if len(words) == 0 {
		return len(l) == 0
	}
	set, many := strings.CutSuffix(words[0], "*")
	set, rare := strings.CutSuffix(set, "?")
	if (many || rare) && matches(l, words[1:]) {
		return true
	}
	fits := len(l) > 0 && slices.ContainsFunc(strings.Split(set, "|"), func(s string) bool { return inSet(l[0], s) })
	if many {
		return fits && matches(l[1:], words)
	}
	return fits && matches(l[1:], words[1:])
}

// levels returns the number of nodes of the longest path from the root.
func levels(n api.Node) int {
	most := 0
	for _, k := range n.Kids {
		most = max(most, levels(k))
	}
	return most + 1
}

// allPermitted reports whether all nodes of a tree are permitted.
func allPermitted(n api.Node) bool {
	r, known := rowOf(n.Kind)
	texts := strings.Fields(r.text)
	switch {
	case !known || !matches(n.Kids, strings.Fields(r.children)):
		return false
	case r.text == "name" && !isNamed(n.Text):
		return false
	case r.text != "name" && !(r.text == "" && n.Text == "") && !slices.Contains(texts, n.Text):
		return false
	case n.Kind == api.NInt && n.Num < 0, n.Kind == api.NBool && n.Num != 0 && n.Num != 1:
		return false
	}
	return !slices.ContainsFunc(n.Kids, func(k api.Node) bool { return !allPermitted(k) })
}

// specifiedFile is the definition of a file.
func specifiedFile(n api.Node) bool {
	return n.Kind == api.NFile && levels(n) <= 50 && allPermitted(n)
}

// indented returns a text with one more tab on each of its lines.
func indented(s string) string {
	if s == "" {
		return ""
	}
	return "\t" + strings.ReplaceAll(strings.TrimSuffix(s, "\n"), "\n", "\n\t") + "\n"
}

// texts returns the texts of nodes, each between two others.
func texts(l []api.Node, before, after string) string {
	s := ""
	for _, n := range l {
		s += before + specifiedText(n) + after
	}
	return s
}

// listed returns the texts of nodes with commas.
func listed(l []api.Node) string { return strings.TrimSuffix(texts(l, "", ", "), ", ") }

// guarded returns the text of a node, in parentheses if it has one of these kinds.
func guarded(n api.Node, kinds ...int) string {
	if slices.Contains(kinds, n.Kind) {
		return "(" + specifiedText(n) + ")"
	}
	return specifiedText(n)
}

// formats are the texts of nodes: $t stands for the Text, $0, $1 and $2 for the children, $* for all of them, separated by
// commas, $+ for all but the first one, and $# for their lines, with one more tab. $p and $o are the first child, in parentheses
// if it needs them before an index or as an operand, $q is the second one as an operand.
var formats = map[int]string{
	api.NStruct:  "type $t struct {\n$#}",
	api.NField:   "$t $0",
	api.NParams:  "$*",
	api.NPointer: "*$t",
	api.NBlock:   "{\n$#}",
	api.NDefine:  "$t := $0",
	api.NAssign:  "$0 = $1",
	api.NExpr:    "$0",
	api.NGo:      "go $0",
	api.NDefer:   "defer $0",
	api.NSend:    "$0 <- $1",
	api.NClose:   "close($0)",
	api.NPrint:   "print($0)",
	api.NMember:  "$p.$t",
	api.NIndex:   "$p[$1]",
	api.NCall:    "$p($+)",
	api.NUnary:   "$t$o",
	api.NReceive: "<-$o",
	api.NBinary:  "$o $t $q",
	api.NNil:     "nil",
	api.NName:    "$t",
	api.NNew:     "new($t)",
	api.NSlice:   "make([]int, $0)",
	api.NChan:    "make(chan int, $0)",
	api.NLen:     "len($0)",
	api.NLiteral: "func() $0",
}

// formatOf returns the format of a node. Where it depends on the node, it is chosen here.
func formatOf(n api.Node) string {
	absent := func(i int) bool { return n.Kids[i].Kind == api.NNone }
	switch {
	case n.Kind == api.NType:
		return strings.NewReplacer("chan", "chan int", "func", "func()").Replace(n.Text)
	case n.Kind == api.NInt:
		return strconv.Itoa(n.Num)
	case n.Kind == api.NBool:
		return []string{"false", "true"}[n.Num]
	case n.Kind == api.NVar && absent(1):
		return "var $t $0"
	case n.Kind == api.NVar:
		return "var $t $0 = $1"
	case n.Kind == api.NFunc && absent(1):
		return "func $t($0) $2"
	case n.Kind == api.NFunc:
		return "func $t($0) $1 $2"
	case n.Kind == api.NIf && absent(2):
		return "if $0 $1"
	case n.Kind == api.NIf:
		return "if $0 $1 else $2"
	case n.Kind == api.NFor && absent(0):
		return "for $1"
	case n.Kind == api.NFor:
		return "for $0 $1"
	case n.Kind == api.NReturn:
		return []string{"return", "return $0"}[len(n.Kids)]
	}
	return formats[n.Kind]
}

// specifiedText returns the text that the chapter specifies for a permitted node.
func specifiedText(n api.Node) string {
	switch n.Kind {
	case api.NFile:
		return texts(n.Kids, "", "\n")
	case api.NSelect:
		return "select {\n" + texts(n.Kids, "", "") + "}"
	case api.NCase:
		head := "case " + specifiedText(n.Kids[0])
		if n.Kids[0].Kind == api.NNone {
			head = "default"
		}
		return head + ":\n" + indented(texts(n.Kids[1].Kids, "", "\n"))
	}
	pieces := strings.Split(formatOf(n), "$")
	s := pieces[0]
	for _, piece := range pieces[1:] {
		s += part(n, piece[:1]) + piece[1:]
	}
	return s
}

// part returns what a letter of a format stands for.
func part(n api.Node, letter string) string {
	switch letter {
	case "t":
		return n.Text
	case "*":
		return listed(n.Kids)
	case "+":
		return listed(n.Kids[1:])
	case "#":
		return indented(texts(n.Kids, "", "\n"))
	case "p":
		return guarded(n.Kids[0], api.NBinary, api.NUnary, api.NReceive)
	case "o":
		return guarded(n.Kids[0], api.NBinary)
	case "q":
		return guarded(n.Kids[1], api.NBinary)
	}
	return specifiedText(n.Kids[strings.Index("012", letter)])
}
