package parse

import (
	"slices"

	"interleave/api"
)

// parser is the state of a parser. A method that reads a construct begins in front of it, or, if it has a parameter first, behind
// the first token of the construct.
type parser struct {
	rest       []api.Token // the tokens that are not read yet
	size       int         // the size of the text
	statements map[string]func(first api.Token) api.Node
}

func newParser(l []api.Token, size int) *parser {
	p := &parser{rest: l, size: size}
	p.statements = p.table()
	return p
}

func (p *parser) ended() bool { return len(p.rest) == 0 }

// look returns the token that is this many tokens ahead. Behind the last token there is one without a kind and a text.
func (p *parser) look(ahead int) api.Token {
	if ahead >= len(p.rest) {
		return api.Token{At: p.size}
	}
	return p.rest[ahead]
}

func (p *parser) next() api.Token { return p.look(0) }

// is reports whether the next token is one of these words, that is, keywords and operators. Their texts suffice to find them,
// because no name and no integer has such a text.
func (p *parser) is(words ...string) bool { return slices.Contains(words, p.next().Text) }

// take reads the next token, whatever it is.
func (p *parser) take() api.Token {
	t := p.next()
	p.rest = p.rest[1:]
	return t
}

// accept reads the next token if it is this word, and reports whether it is.
func (p *parser) accept(word string) bool {
	found := p.is(word)
	if found {
		p.take()
	}
	return found
}

// expect reads these words and returns the token of the first one.
func (p *parser) expect(words ...string) api.Token {
	first := p.next()
	for _, w := range words {
		if !p.accept(w) {
			panic(api.ErrSyntax)
		}
	}
	return first
}

// name reads a name.
func (p *parser) name() api.Token {
	if p.next().Kind != api.TokName {
		panic(api.ErrSyntax)
	}
	return p.take()
}

// lines reads items that end with semicolons, up to one of the words. The semicolon before a brace may be missing.
func (p *parser) lines(item func() api.Node, until ...string) []api.Node {
	var l []api.Node
	for !p.is(until...) {
		l = append(l, item())
		if !p.is("}") {
			p.expect(";")
		}
	}
	return l
}

// list reads items with commas between them, up to and including the parenthesis behind them.
func (p *parser) list(item func() api.Node) []api.Node {
	var l []api.Node
	for !p.accept(")") {
		if len(l) > 0 {
			p.expect(",")
		}
		l = append(l, item())
	}
	return l
}

func node(kind int, first api.Token, kids ...api.Node) api.Node {
	return api.Node{Kind: kind, At: first.At, Kids: kids}
}

// named returns a node with the text of a token.
func named(kind int, first, text api.Token, kids ...api.Node) api.Node {
	return api.Node{Kind: kind, Text: text.Text, At: first.At, Kids: kids}
}

// none stands for an optional part that is missing.
func none() api.Node { return api.Node{Kind: api.NNone} }
