package scan

import (
	"strconv"
	"strings"

	"interleave/api"
)

// operators begins with the longer ones, so that the first operator that matches is the longest one.
var operators = [...]string{
	":=", "==", "!=", "<=", ">=", "&&", "||", "<-",
	"(", ")", "[", "]", "{", "}", ",", ";", ":", ".",
	"=", "<", ">", "+", "-", "*", "/", "%", "!",
}

// scanner is the state of a scanner that has read text up to the offset at.
type scanner struct {
	text   string
	at     int
	insert bool // whether a line feed would insert a semicolon
}

// more skips what separates tokens, and reports whether there is a next token.
func (c *scanner) more() bool {
	for c.at < len(c.text) && c.separates(c.text[c.at]) {
		c.at++
	}
	return c.at < len(c.text)
}

// separates reports whether the byte b at this place only separates tokens. A line feed that inserts a semicolon does not.
func (c *scanner) separates(b byte) bool {
	return b == ' ' || b == '\t' || b == '\r' || b == '\n' && !c.insert
}

// next reads the token that begins here. If there is none, it returns the error and reads nothing.
func (c *scanner) next() (api.Token, api.Errno) {
	b := c.text[c.at]
	switch {
	case b == '\n':
		return c.semicolon(), api.OK
	case isLetter(b):
		return c.name()
	case isDigit(b):
		return c.integer()
	case strings.HasPrefix(c.text[c.at:], "//"):
		return c.comment(), api.OK
	}
	return c.operator()
}

// semicolon reads a line feed that inserts a semicolon.
func (c *scanner) semicolon() api.Token {
	t := c.take(api.TokOperator, 1)
	t.Text = ";"
	return t
}

// name reads a name or a keyword.
func (c *scanner) name() (api.Token, api.Errno) {
	size := c.span(func(b byte) bool { return isLetter(b) || isDigit(b) })
	switch {
	case size > api.MaxName:
		return api.Token{}, api.ErrLimit
	case Keyword(c.text[c.at : c.at+size]):
		return c.take(api.TokKeyword, size), api.OK
	}
	return c.take(api.TokName, size), api.OK
}

// integer reads a sequence of digits.
func (c *scanner) integer() (api.Token, api.Errno) {
	size := c.span(isDigit)
	digits, rest := c.text[c.at:c.at+size], c.text[c.at+size:]
	_, overflow := strconv.ParseInt(digits, 10, 64)
	if overflow != nil || size > 1 && digits[0] == '0' || rest != "" && isLetter(rest[0]) {
		return api.Token{}, api.ErrSyntax
	}
	return c.take(api.TokInt, size), api.OK
}

// comment reads a comment. Its line feed is left, because it may insert a semicolon.
func (c *scanner) comment() api.Token {
	return c.take(api.TokComment, c.span(func(b byte) bool { return b != '\n' }))
}

// operator reads an operator.
func (c *scanner) operator() (api.Token, api.Errno) {
	for _, op := range operators {
		if strings.HasPrefix(c.text[c.at:], op) {
			return c.take(api.TokOperator, len(op)), api.OK
		}
	}
	return api.Token{}, api.ErrSyntax
}

// take reads the next bytes as a token.
func (c *scanner) take(kind, size int) api.Token {
	t := api.Token{Kind: kind, Text: c.text[c.at : c.at+size], At: c.at}
	c.at += size
	if kind != api.TokComment {
		c.insert = endsLine(t)
	}
	return t
}

// span returns how many of the next bytes belong to a set, one after the other.
func (c *scanner) span(belongs func(byte) bool) int {
	size := 0
	for c.at+size < len(c.text) && belongs(c.text[c.at+size]) {
		size++
	}
	return size
}

// isLetter includes the underscore, which stands wherever a letter may stand.
func isLetter(b byte) bool {
	return 'a' <= b && b <= 'z' || 'A' <= b && b <= 'Z' || b == '_'
}

func isDigit(b byte) bool { return '0' <= b && b <= '9' }

// endsLine reports whether a line feed behind t inserts a semicolon.
func endsLine(t api.Token) bool {
	switch t.Text {
	case "true", "false", "nil", "return", "int", "bool", "mutex", "rwmutex", "group", "once", "atomic", ")", "]", "}":
		return true
	}
	return t.Kind == api.TokName || t.Kind == api.TokInt
}
