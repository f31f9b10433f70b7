package parse

import (
	"slices"
	"strconv"
	"strings"

	"interleave/api"
	"interleave/scan"
)

// grammar is the grammar of the chapter, with two changes: a semicolon that may be omitted is optional, and Call and Receive are
// the expressions that become an NCall and an NReceive.
const grammar = `
File      = { Decl ";" } [ Decl ] .
Decl      = "type" name "struct" "{" { name Type ";" } [ name Type ] "}" | "var" name Type
          | "func" name "(" [ name Type { "," name Type } ] ")" [ Type ] Block .
Type      = "int" | "bool" | "*" name | "[" "]" "int" | "chan" "int" | "func" "(" ")" | "mutex" | "rwmutex" | "group" | "once" | "atomic" .
Block     = "{" { Stmt ";" } [ Stmt ] "}" .
Stmt      = "var" name Type [ "=" Expr ] | name ":=" Expr | Expr "=" Expr | Expr "<-" Expr | Call | Receive | "go" Call | "defer" Call
          | "close" "(" Expr ")" | "print" "(" Expr ")" | If | "for" [ Expr ] Block | "return" [ Expr ] | Select | Block .
If        = "if" Expr Block [ "else" ( Block | If ) ] .
Select    = "select" "{" { Guard ":" { Stmt ";" } } [ Guard ":" { Stmt ";" } Stmt ] "}" .
Guard     = "case" Comm | "default" .
Comm      = Expr "<-" Expr | Receive | Expr "=" "<-" Unary | name ":=" "<-" Unary .
Call      = Primary Arguments | "(" Call ")" .
Receive   = "<-" Unary | "(" Receive ")" .
Expr      = Unary { Operator Unary } .
Operator  = "||" | "&&" | "==" | "!=" | "<" | "<=" | ">" | ">=" | "+" | "-" | "*" | "/" | "%" .
Unary     = ( "-" | "!" | "<-" ) Unary | Primary .
Primary   = Operand { "." name | "[" Expr "]" | Arguments } .
Arguments = "(" [ Expr { "," Expr } ] ")" .
Operand   = integer | "true" | "false" | "nil" | name | "(" Expr ")" | "new" "(" name ")" | "make" "(" "[" "]" "int" "," Expr ")"
          | "make" "(" "chan" "int" "," Expr ")" | "len" "(" Expr ")" | "func" "(" ")" Block .
`

// productions are the alternatives of each variable of a grammar. Groups, options and repetitions have variables of their own,
// which begin with #.
type productions map[string][][]string

// reader reads the words of a grammar.
type reader struct {
	words []string
	rules productions
}

func (r *reader) word() string {
	w := r.words[0]
	r.words = r.words[1:]
	return w
}

// alternatives reads alternatives and the word behind them.
func (r *reader) alternatives() [][]string {
	all := [][]string{nil}
	for {
		last := len(all) - 1
		switch w := r.word(); w {
		case ".", ")", "]", "}":
			return all
		case "|":
			all = append(all, nil)
		case "(", "[", "{":
			all[last] = append(all[last], r.group(w))
		default:
			all[last] = append(all[last], w)
		}
	}
}

// group reads a group behind its first parenthesis and returns its variable.
func (r *reader) group(open string) string {
	l := r.alternatives()
	v := "#" + strconv.Itoa(len(r.rules))
	if open != "(" {
		l = append(l, nil)
	}
	if open == "{" {
		for i := range l {
			if len(l[i]) > 0 {
				l[i] = append([]string{v}, l[i]...)
			}
		}
	}
	r.rules[v] = l
	return v
}

// rulesOf returns the productions of a grammar.
func rulesOf(s string) productions {
	r := &reader{words: strings.Fields(s), rules: productions{}}
	for len(r.words) > 0 {
		v := r.word()
		r.word()
		r.rules[v] = r.alternatives()
	}
	return r.rules
}

// item is an alternative of a variable of which some symbols have been read, from a place of the tokens.
type item struct {
	variable          string
	alternative, read int
	from              int
}

// recognizer is an Earley recognizer. Each set contains the items that are possible behind a number of tokens; it is empty exactly
// if no text of the grammar begins with these tokens, because every variable has a text.
type recognizer struct {
	rules productions
	sets  [][]item
}

// newRecognizer has read no tokens.
func newRecognizer() recognizer {
	r := recognizer{rules: rulesOf(grammar)}
	var start []item
	for i := range r.rules["File"] {
		start = append(start, item{variable: "File", alternative: i})
	}
	r.sets = [][]item{r.complete(start, 0)}
	return r
}

// symbols returns what the item has not read yet.
func (r recognizer) symbols(x item) []string { return r.rules[x.variable][x.alternative][x.read:] }

// complete adds to a set, which stands at a place, what follows from its items.
func (r recognizer) complete(set []item, place int) []item {
	add := func(x item) {
		if !slices.Contains(set, x) {
			set = append(set, x)
		}
	}
	advance := func(x item) {
		x.read++
		add(x)
	}
	for i := 0; i < len(set); i++ {
		x := set[i]
		rest := r.symbols(x)
		if len(rest) > 0 {
			for k := range r.rules[rest[0]] {
				add(item{variable: rest[0], alternative: k, from: place})
			}
			if r.empty(rest[0]) {
				advance(x)
			}
			continue
		}
		waiting := set
		if x.from < place {
			waiting = r.sets[x.from]
		}
		for _, y := range waiting {
			if l := r.symbols(y); len(l) > 0 && l[0] == x.variable {
				advance(y)
			}
		}
	}
	return set
}

// empty reports whether a symbol has an empty alternative. (No variable has an alternative of such variables only, except File,
// which occurs in none.)
func (r recognizer) empty(symbol string) bool {
	return slices.ContainsFunc(r.rules[symbol], func(l []string) bool { return len(l) == 0 })
}

// extend returns a recognizer that has read one more token, and whether a text can begin with all of them. The recognizers that are
// returned for the same r share memory, so that only the last one can be used.
func (r recognizer) extend(t api.Token) (recognizer, bool) {
	symbol := `"` + t.Text + `"`
	switch t.Kind {
	case api.TokName:
		symbol = "name"
	case api.TokInt:
		symbol = "integer"
	}
	var next []item
	for _, x := range r.sets[len(r.sets)-1] {
		if l := r.symbols(x); len(l) > 0 && l[0] == symbol {
			x.read++
			next = append(next, x)
		}
	}
	place := len(r.sets)
	r.sets = append(r.sets, r.complete(next, place))
	return r, len(next) > 0
}

// accepts reports whether the tokens that were read are a text of the grammar.
func (r recognizer) accepts() bool {
	return slices.ContainsFunc(r.sets[len(r.sets)-1], func(x item) bool { return x.variable == "File" && len(r.symbols(x)) == 0 })
}

// judge returns the offset and the error that the chapter specifies for a text of some size that goes on with these tokens, but
// for trees with too many levels.
func (r recognizer) judge(l []api.Token, size int) (int, api.Errno) {
	for _, t := range l {
		next, possible := r.extend(t)
		if !possible {
			return t.At, api.ErrSyntax
		}
		r = next
	}
	if !r.accepts() {
		return size, api.ErrSyntax
	}
	return 0, api.OK
}

// specified returns the offset and the error that the chapter specifies for s, but for trees with too many levels.
func specified(s string) (int, api.Errno) {
	l, at, e := scan.Scan(s)
	if e != api.OK {
		return at, e
	}
	return newRecognizer().judge(l, len(s))
}
