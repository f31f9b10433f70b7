package scan

import (
	"slices"
	"strconv"
	"strings"
	"testing"

	"interleave/api"
)

// show writes tokens as they appear in messages.
func show(l []api.Token) string {
	var b strings.Builder
	for _, t := range l {
		b.WriteString(strconv.Itoa(t.Kind) + ":" + strconv.Quote(t.Text) + "@" + strconv.Itoa(t.At) + " ")
	}
	return b.String()
}

// checkScan requires that s is accepted with these tokens.
func checkScan(t *testing.T, s string, want ...api.Token) {
	t.Helper()
	l, at, e := Scan(s)
	if e != api.OK || at != 0 || !slices.Equal(l, want) {
		t.Errorf("%.60q: %s %d %v, want %s", s, show(l), at, e, show(want))
	}
}

// checkTexts requires that s is accepted with tokens of these texts.
func checkTexts(t *testing.T, s, want string) {
	t.Helper()
	l, at, e := Scan(s)
	var texts []string
	for _, x := range l {
		texts = append(texts, x.Text)
	}
	if e != api.OK || at != 0 || strings.Join(texts, " ") != want {
		t.Errorf("%.60q: %q %d %v, want %q", s, texts, at, e, want)
	}
}

// checkError requires that s is rejected, without tokens.
func checkError(t *testing.T, s string, wantAt int, want api.Errno) {
	t.Helper()
	l, at, e := Scan(s)
	if e != want || at != wantAt || len(l) != 0 {
		t.Errorf("%.60q: %s %d %v, want %d %v", s, show(l), at, e, wantAt, want)
	}
}

// checkSpecified requires the results of the reference.
func checkSpecified(t *testing.T, s string) {
	t.Helper()
	r := specified(s)
	l, at, e := Scan(s)
	if e != r.e || at != r.at || !slices.Equal(l, r.tokens) {
		t.Fatalf("%.60q: %s %d %v, want %s %d %v", s, show(l), at, e, show(r.tokens), r.at, r.e)
	}
	if c := Comments(s); !slices.Equal(c, r.comments) {
		t.Fatalf("%.60q: comments %s, want %s", s, show(c), show(r.comments))
	}
}

// P2.1: the examples of the chapter.
func TestExamples(t *testing.T) {
	checkScan(t, "x := a.b<-1 // c\n",
		api.Token{Kind: api.TokName, Text: "x", At: 0}, api.Token{Kind: api.TokOperator, Text: ":=", At: 2},
		api.Token{Kind: api.TokName, Text: "a", At: 5}, api.Token{Kind: api.TokOperator, Text: ".", At: 6},
		api.Token{Kind: api.TokName, Text: "b", At: 7}, api.Token{Kind: api.TokOperator, Text: "<-", At: 8},
		api.Token{Kind: api.TokInt, Text: "1", At: 10}, api.Token{Kind: api.TokOperator, Text: ";", At: 16})
	checkError(t, "a&b", 1, api.ErrSyntax)
	checkError(t, "1x", 0, api.ErrSyntax)
	checkError(t, "01", 0, api.ErrSyntax)
	checkScan(t, "return\n\n", api.Token{Kind: api.TokKeyword, Text: "return", At: 0}, api.Token{Kind: api.TokOperator, Text: ";", At: 6})
	checkScan(t, "{\n", api.Token{Kind: api.TokOperator, Text: "{", At: 0})
}

// P2.1: a text without tokens has none, also the empty text.
func TestNoTokens(t *testing.T) {
	for _, s := range []string{"", " ", "\t", "\r", "\n", "\n\n \r\n\t\n", "//", "// a", "//\n", "\n// a\n//b\n\n"} {
		checkScan(t, s)
	}
	for _, s := range []string{"", " \t\r\n", "a / b", "a + 1\n"} {
		if c := Comments(s); len(c) != 0 {
			t.Errorf("%q: %s", s, show(c))
		}
	}
}

// P2.1: every keyword, and words that resemble one.
func TestKeywords(t *testing.T) {
	if len(keywordList) != 29 {
		t.Fatal(len(keywordList))
	}
	for _, k := range keywordList {
		if !Keyword(k) {
			t.Errorf("%q is no keyword", k)
		}
		checkScan(t, " "+k, api.Token{Kind: api.TokKeyword, Text: k, At: 1})
		for _, s := range []string{strings.ToUpper(k), strings.ToUpper(k[:1]) + k[1:], k + "_", k + "1", "_" + k, k + k, k + "x"} {
			if Keyword(s) {
				t.Errorf("%q is a keyword", s)
			}
			checkScan(t, s, api.Token{Kind: api.TokName, Text: s})
		}
		for _, s := range []string{" " + k, k + " ", k + "\n", k + "\x00", k[1:], k[:len(k)-1]} {
			if Keyword(s) != slices.Contains(keywordList, s) {
				t.Errorf("%q", s)
			}
		}
	}
	for _, s := range []string{"", "a", "string", "break", "continue", "range", "package", "import", "main", "Lock", "map", "switch", "goto", "interface", "const", "(", ":=", "1", "// c"} {
		if Keyword(s) {
			t.Errorf("%q is a keyword", s)
		}
	}
}

// P2.1: names of every letter, and names of 32 and 33 bytes.
func TestNames(t *testing.T) {
	for _, c := range strings.Split(letters, "") {
		for _, s := range []string{c, c + "0", c + "x9_" + c, "_" + c, "a9" + c + "8"} {
			checkScan(t, s, api.Token{Kind: api.TokName, Text: s})
		}
	}
	for _, first := range []string{"a", "Z", "_", "return", "x0"} {
		for _, rest := range []string{"b", "7", "_", "M"} {
			s := first + strings.Repeat(rest, 32-len(first))
			checkScan(t, "("+s, api.Token{Kind: api.TokOperator, Text: "(", At: 0}, api.Token{Kind: api.TokName, Text: s, At: 1})
			checkScan(t, s+" c", api.Token{Kind: api.TokName, Text: s, At: 0}, api.Token{Kind: api.TokName, Text: "c", At: 33})
			checkError(t, "("+s+"b", 1, api.ErrLimit)
			checkError(t, "\n "+s+"3 c", 2, api.ErrLimit)
			checkError(t, "c "+s+s+s, 2, api.ErrLimit)
		}
	}
	checkError(t, strings.Repeat("a", 20000), 0, api.ErrLimit)
}

// P2.1: integers up to 2^63 - 1 and from 2^63, leading zeros, and letters behind integers.
func TestIntegers(t *testing.T) {
	for _, s := range []string{"0", "1", "9", "10", "100", "1234567890", "999999999999999999", "1000000000000000000", "9223372036854775799", "9223372036854775800", "9223372036854775806", "9223372036854775807"} {
		checkScan(t, s, api.Token{Kind: api.TokInt, Text: s})
		checkScan(t, "-"+s+")", api.Token{Kind: api.TokOperator, Text: "-"}, api.Token{Kind: api.TokInt, Text: s, At: 1}, api.Token{Kind: api.TokOperator, Text: ")", At: 1 + len(s)})
	}
	for _, s := range []string{
		"9223372036854775808", "9223372036854775810", "9223372036854776000", "9999999999999999999", "10000000000000000000",
		"18446744073709551615", "18446744073709551616", "18446744073709551617", "99999999999999999999999999", "1" + strings.Repeat("0", 300),
		"00", "01", "007", "09", "0000", "0123456789", "00000000000000000000000", "09223372036854775807", strings.Repeat("0", 100) + "1",
	} {
		for _, behind := range []string{"", " ", "\n", ")", "x", "#"} {
			checkError(t, s+behind, 0, api.ErrSyntax)
			checkError(t, "a ="+s+behind, 3, api.ErrSyntax)
		}
	}
	for _, c := range strings.Split(letters, "") {
		for _, s := range []string{"0", "1", "42", "9223372036854775807"} {
			checkError(t, s+c, 0, api.ErrSyntax)
			checkError(t, "( "+s+c+"1", 2, api.ErrSyntax)
		}
	}
	checkTexts(t, "0 x 1 _ 2/3.4", "0 x 1 _ 2 / 3 . 4")
	checkTexts(t, "7//x", "7")
}

// P2.1: every operator, and the longest match of any three of their bytes.
func TestOperators(t *testing.T) {
	if len(operatorList) != 27 {
		t.Fatal(len(operatorList))
	}
	for _, op := range operatorList {
		checkScan(t, "\t"+op, api.Token{Kind: api.TokOperator, Text: op, At: 1})
		for _, b := range operatorList {
			checkTexts(t, op+" "+b, op+" "+b)
		}
		checkTexts(t, "a"+op+"b", "a "+op+" b")
	}
	for _, x := range []struct{ s, want string }{
		{":=", ":="}, {"::=", ": :="}, {":==", ":= ="}, {"===", "== ="}, {"====", "== =="}, {"=:=", "= :="}, {"!==", "!= ="}, {"!!=", "! !="},
		{"<-=", "<- ="}, {"<=-", "<= -"}, {"<<-", "< <-"}, {"<--", "<- -"}, {"-<-", "- <-"}, {"=<-", "= <-"}, {">=<", ">= <"}, {">==", ">= ="}, {"<==", "<= ="},
		{"&&&&", "&& &&"}, {"||||", "|| ||"}, {"||&&", "|| &&"}, {"->", "- >"}, {"<>", "< >"}, {"+=", "+ ="}, {"++", "+ +"}, {"/*", "/ *"}, {"%=", "% ="},
		{"[](){}", "[ ] ( ) { }"}, {"...", ". . ."}, {"/ /", "/ /"}, {"; ;", "; ;"},
	} {
		checkTexts(t, x.s, x.want)
	}
	for _, s := range joined(strings.Split("()[]{},;:.=!<>+-*/%&|", ""), 3) {
		checkSpecified(t, s)
	}
}

// P2.1: the tokens behind which a line feed inserts a semicolon, and those behind which it does not.
func TestSemicolons(t *testing.T) {
	tokens := append(append([]string{"a", "_", "x9", "types", "0", "1", largest}, keywordList...), operatorList...)
	for i, s := range tokens {
		kind := specified(s).tokens[0].Kind
		ends := i < 7 || slices.Contains(enders, s)
		for _, between := range []string{"", " ", "\r", "\t \r", " //", "// c", " // func {", " // )\r"} {
			if s == "/" && strings.HasPrefix(between, "//") {
				continue // the two would be a comment
			}
			before := s + between
			want := []api.Token{{Kind: kind, Text: s}}
			checkScan(t, before, want...)
			if ends {
				want = append(want, api.Token{Kind: api.TokOperator, Text: ";", At: len(before)})
			}
			for _, behind := range []string{"\n", "\n\n\n", "\n \n\t\r\n", "\n// c\n\n//\n"} {
				checkScan(t, before+behind, want...)
			}
			next := append(want, api.Token{Kind: api.TokOperator, Text: "}", At: len(before) + 3})
			checkScan(t, before+"\n\n\n}", next...)
		}
	}
	checkTexts(t, "a\n;\nb;\n\nc", "a ; ; b ; c")
	checkTexts(t, "a\n\nb\n\n{\n}\n\n", "a ; b ; { } ;")
	checkTexts(t, "\n\na", "a")
	checkTexts(t, "func(\na,\n\nb)\n", "func ( a , b ) ;")
	checkTexts(t, "a // b\n// c\n\n// d\ne", "a ; e")
}

// P2.1: comments, up to the first error.
func TestComments(t *testing.T) {
	comment := func(s string, at int) api.Token { return api.Token{Kind: api.TokComment, Text: s, At: at} }
	for _, x := range []struct {
		s    string
		want []api.Token
	}{
		{"//", []api.Token{comment("//", 0)}},
		{"// a", []api.Token{comment("// a", 0)}},
		{"x// a\n", []api.Token{comment("// a", 1)}},
		{"x // a\r\n//b\n// c // d", []api.Token{comment("// a\r", 2), comment("//b", 8), comment("// c // d", 12)}},
		{"////\n/ //\n///", []api.Token{comment("////", 0), comment("//", 7), comment("///", 10)}},
		{"//\x00\xff\u00e4#\"&\n", []api.Token{comment("//\x00\xff\u00e4#\"&", 0)}},
		{"// a\n# // b", []api.Token{comment("// a", 0)}},
		{"// a\n01// b", []api.Token{comment("// a", 0)}},
		{"// a\n// b\n" + strings.Repeat("x", 33) + " // c", []api.Token{comment("// a", 0), comment("// b", 5)}},
		{"& // a", nil},
		{"a /= b // c", []api.Token{comment("// c", 7)}},
		{"// " + strings.Repeat("x", 33) + " 01 1x", []api.Token{comment("// "+strings.Repeat("x", 33)+" 01 1x", 0)}},
	} {
		if c := Comments(x.s); !slices.Equal(c, x.want) {
			t.Errorf("%q: %s, want %s", x.s, show(c), show(x.want))
		}
	}
	checkTexts(t, "a //b\n/c/ /d///e", "a ; / c / / d")
}

// P2.1: texts of 20000 and 20001 bytes.
func TestSizes(t *testing.T) {
	for _, x := range []struct{ first, rest, last string }{
		{"", " ", ""}, {"", "\n", ""}, {"a", "\n", "b"}, {"", "(", ""}, {"//", "x", ""}, {"//", "/", "\n"}, {"", "a+", ""}, {"", "a\n", "01"},
		{"", " ", "#"}, {"#", " ", ""}, {"// c\n", " ", "x"}, {"1x", "\n", "//"}, {"", "// c\n", ""},
	} {
		n := 20000 - len(x.first) - len(x.last)
		s := x.first + strings.Repeat(x.rest, n/len(x.rest))
		s += strings.Repeat(" ", 20000-len(s)-len(x.last)) + x.last
		if len(s) != 20000 {
			t.Fatal(len(s))
		}
		checkSpecified(t, s)
		for _, s := range []string{" " + s, s + " ", s + "\n", s + s} {
			checkError(t, s, 0, api.ErrLimit)
			if c := Comments(s); len(c) != 0 {
				t.Errorf("%.60q: comments %.60s", s, show(c))
			}
		}
	}
	checkError(t, strings.Repeat(" ", 19999)+"#", 19999, api.ErrSyntax)
	checkScan(t, strings.Repeat("\n", 19999)+"a", api.Token{Kind: api.TokName, Text: "a", At: 19999})
	c := Comments("//" + strings.Repeat("x", 19998))
	if len(c) != 1 || len(c[0].Text) != 20000 {
		t.Errorf("%.60s", show(c))
	}
}

// P2.1: every byte, alone, beside tokens, and in a comment.
func TestBytes(t *testing.T) {
	const begins = letters + digits + " \t\r\n()[]{},;:.=<>+-*/%!"
	for b := range 256 {
		c := string([]byte{byte(b)})
		l, at, e := Scan(c)
		if strings.Contains(begins, c) {
			if e != api.OK || at != 0 || strings.TrimSpace(c) != "" && (len(l) != 1 || l[0].Text != c) {
				t.Errorf("%q: %s %d %v", c, show(l), at, e)
			}
		} else {
			checkError(t, c, 0, api.ErrSyntax)
			checkError(t, "ab "+c, 3, api.ErrSyntax)
			checkError(t, "ab"+c+"1", 2, api.ErrSyntax)
			checkError(t, "12"+c+"=", 2, api.ErrSyntax)
			checkError(t, ")"+c+" ", 1, api.ErrSyntax)
			checkError(t, "// c\n"+c, 5, api.ErrSyntax)
		}
		for _, s := range []string{c, "a" + c, "7" + c, c + "a", "=" + c + "=", "//" + c, "// " + c + "\nx", "\xc3" + c, "&" + c, "|" + c} {
			checkSpecified(t, s)
		}
	}
}

// P2.1: the first error is returned, with its offset; an error that would follow is not.
func TestFirstError(t *testing.T) {
	name := strings.Repeat("n", 33)
	for _, x := range []struct {
		s  string
		at int
		e  api.Errno
	}{
		{"# 1x " + name, 0, api.ErrSyntax},
		{"1x # " + name, 0, api.ErrSyntax},
		{name + " 1x #", 0, api.ErrLimit},
		{"a " + name + "#", 2, api.ErrLimit},
		{"1" + name, 0, api.ErrSyntax},
		{"a\n\n  & b", 5, api.ErrSyntax},
		{"&&&", 2, api.ErrSyntax},
		{"|||", 2, api.ErrSyntax},
		{"a & & b", 2, api.ErrSyntax},
		{"a |& b", 2, api.ErrSyntax},
		{"x\n// c\n// #\n\t$", 13, api.ErrSyntax},
		{"\"a\"", 0, api.ErrSyntax},
		{"'a'", 0, api.ErrSyntax},
		{"`a`", 0, api.ErrSyntax},
		{"a ^ b", 2, api.ErrSyntax},
		{"\u00e4", 0, api.ErrSyntax},
		{"a\u00e4", 1, api.ErrSyntax},
		{"\ufeffa", 0, api.ErrSyntax},
		{"a\u00a0b", 1, api.ErrSyntax},
		{"a\vb", 1, api.ErrSyntax},
		{"a\x00", 1, api.ErrSyntax},
	} {
		checkError(t, x.s, x.at, x.e)
	}
}

// P2.1: all small texts have the specified results.
func TestSmallTexts(t *testing.T) {
	for _, s := range joined(pieces, 4) {
		checkSpecified(t, s)
	}
	for _, s := range programs() {
		checkSpecified(t, s)
		for i := range s {
			checkSpecified(t, s[i:])
			checkSpecified(t, s[:i])
			checkSpecified(t, s[:i]+"\n"+s[i:])
			checkSpecified(t, s[:i]+"#"+s[i:])
		}
	}
}

// P2.1: Join, also of tokens that Scan would not return.
func TestJoin(t *testing.T) {
	for _, x := range []struct {
		texts []string
		want  string
	}{
		{nil, ""}, {[]string{"a"}, "a"}, {[]string{""}, ""}, {[]string{"a", ":=", "1"}, "a := 1"}, {[]string{"", ""}, " "}, {[]string{"", "a", ""}, " a "},
		{[]string{"a b", "\n", "// c", "\xff"}, "a b \n // c \xff"}, {[]string{" ", " "}, "   "},
	} {
		var l []api.Token
		for i, s := range x.texts {
			l = append(l, api.Token{Kind: i - 1, Text: s, At: 100 - i})
		}
		if s := Join(l); s != x.want {
			t.Errorf("%q: %q", x.texts, s)
		}
	}
}

// P1 and P2.1: a call modifies no argument, and its result is not changed by later calls (rule 5).
func TestMemory(t *testing.T) {
	l := []api.Token{{Text: "a"}, {Text: "b"}, {Text: "c"}, {Text: "d"}}
	if s := Join(l[:2]); s != "a b" || Join(l) != "a b c d" {
		t.Error(s, l)
	}
	const s = "a // b\nc // d\n"
	tokens, comments := accepted(t, s), Comments(s)
	clear(accepted(t, s))
	clear(Comments(s))
	checkScan(t, s, tokens...)
	if !slices.Equal(Comments(s), comments) || len(comments) != 2 {
		t.Error(show(comments))
	}
}

// accepted returns the tokens of a text that must be accepted.
func accepted(t *testing.T, s string) []api.Token {
	t.Helper()
	l, at, e := Scan(s)
	if e != api.OK || at != 0 {
		t.Fatalf("%.60q: %d %v", s, at, e)
	}
	return l
}
