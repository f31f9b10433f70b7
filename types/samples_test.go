package types

import (
	"math"
	"strings"

	"interleave/api"
)

// The lists of the chapter to which a type belongs. The types of none and of nil belong to no list.
const (
	invalid   = "invalid"
	alone     = "alone"
	number    = "number" // a value type that is no reference type
	reference = "reference"
	variable  = "synchronization"
)

// sample is a type with what the chapter says about it.
type sample struct {
	t    api.Type
	text string
	list string
}

// table is the table of the chapter, but for the pointers, with the lists below it.
var table = []sample{
	{api.Type{Kind: 0}, "", alone},
	{api.Type{Kind: 1}, "int", number},
	{api.Type{Kind: 2}, "bool", number},
	{api.Type{Kind: 3}, "nil", alone},
	{api.Type{Kind: 5}, "[]int", reference},
	{api.Type{Kind: 6}, "chan int", reference},
	{api.Type{Kind: 7}, "func()", reference},
	{api.Type{Kind: 8}, "mutex", variable},
	{api.Type{Kind: 9}, "rwmutex", variable},
	{api.Type{Kind: 10}, "group", variable},
	{api.Type{Kind: 11}, "once", variable},
	{api.Type{Kind: 12}, "atomic", variable},
}

var (
	none    = api.Type{}
	integer = api.Type{Kind: api.TInt}
	boolean = api.Type{Kind: api.TBool}
	null    = api.Type{Kind: api.TNil}
	closure = api.Type{Kind: api.TFunc}
)

// names are names, some of them at the edges of their definition.
var names = []string{"T", "U", "t", "TT", "_", "__", "x1", "A9", "Int", "integer", "goto", "string", "True", "Lock", strings.Repeat("n", 32), "_" + strings.Repeat("9", 31)}

// noNames are texts that are no names; among them are all keywords.
var noNames = append(strings.Fields("type struct var func if else for return go defer select case default chan new make len true false nil print close "+
	"int bool mutex rwmutex group once atomic 1 1x 9T *T **T T* & é Té T, T;T T.T x// // [] []int func() -"),
	"", " ", "\n", " T", "T ", "T\n", "\nT", "T\r", "\tT", "T U", "T//", "//T", "T\x00", "T\xff", "chan int", strings.Repeat("n", 33), strings.Repeat("x ", 10001))

func pointer(name string) api.Type { return api.Type{Kind: api.TPointer, Name: name} }

// samples returns types of all kinds. No two of them are the same.
func samples() []sample {
	l := append([]sample{}, table...)
	for _, s := range names {
		l = append(l, sample{pointer(s), "*" + s, reference})
	}
	for _, s := range noNames {
		l = append(l, sample{pointer(s), "", invalid})
	}
	for _, x := range table {
		for _, s := range []string{"T", "go", " ", "*" + x.text} {
			l = append(l, sample{api.Type{Kind: x.t.Kind, Name: s}, "", invalid})
		}
	}
	for _, kind := range []int{math.MinInt, -13, -4, -1, 13, 14, 255, 256 + api.TPointer, 1<<32 + api.TInt, math.MaxInt} {
		l = append(l, sample{api.Type{Kind: kind}, "", invalid}, sample{api.Type{Kind: kind, Name: "T"}, "", invalid})
	}
	return l
}

// few returns the samples of the table, some pointers and some invalid types.
func few() []sample {
	l := append([]sample{}, table...)
	for _, x := range samples() {
		switch x.t.Name {
		case "T", "U", "go":
			l = append(l, x)
		case "":
			if x.list == invalid {
				l = append(l, x)
			}
		}
	}
	return l
}
