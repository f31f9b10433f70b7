package scan

import (
	"slices"
	"strings"

	"interleave/api"
)

const (
	letters = "ABCDEFGHIJKLMNOPQRSTUVWXYZabcdefghijklmnopqrstuvwxyz_"
	digits  = "0123456789"
	largest = "9223372036854775807"
)

var (
	keywordList  = strings.Fields("type struct var func if else for return go defer select case default chan new make len true false nil print close int bool mutex rwmutex group once atomic")
	operatorList = strings.Fields("( ) [ ] { } , ; : . := = == != < <= > >= + - * / % ! && || <-")
	// enders are the keywords and operators behind which a line feed inserts a semicolon.
	enders = strings.Fields("true false nil return int bool mutex rwmutex group once atomic ) ] }")
)

// lead returns the longest piece at the start of s that consists of bytes of set.
func lead(s, set string) string { return s[:len(s)-len(strings.TrimLeft(s, set))] }

// result is the result of Scan, and that of Comments.
type result struct {
	tokens, comments []api.Token
	at               int
	e                api.Errno
}

// pieceOf returns the token that begins at the start of s, by the definitions of the chapter. The kind 0 means blanks.
func pieceOf(s string) (int, string, api.Errno) {
	switch c := s[:1]; {
	case strings.Contains(" \t\r\n", c):
		return 0, c, api.OK
	case strings.Contains(letters, c):
		word := lead(s, letters+digits)
		if len(word) > 32 {
			return 0, "", api.ErrLimit
		}
		if slices.Contains(keywordList, word) {
			return api.TokKeyword, word, api.OK
		}
		return api.TokName, word, api.OK
	case strings.Contains(digits, c):
		word := lead(s, digits)
		if lead(s, digits+letters) != word || word != "0" && c == "0" || len(word) > 19 || len(word) == 19 && word > largest {
			return 0, "", api.ErrSyntax
		}
		return api.TokInt, word, api.OK
	case strings.HasPrefix(s, "//"):
		line, _, _ := strings.Cut(s, "\n")
		return api.TokComment, line, api.OK
	}
	longest := ""
	for _, op := range operatorList {
		if strings.HasPrefix(s, op) && len(op) > len(longest) {
			longest = op
		}
	}
	if longest == "" {
		return 0, "", api.ErrSyntax
	}
	return api.TokOperator, longest, api.OK
}

// inserts reports whether a line feed behind these tokens inserts a semicolon.
func inserts(l []api.Token) bool {
	if len(l) == 0 {
		return false
	}
	t := l[len(l)-1]
	return t.Kind == api.TokName || t.Kind == api.TokInt || slices.Contains(enders, t.Text)
}

// specified returns the results that the chapter specifies for s.
func specified(s string) result {
	if len(s) > 20000 {
		return result{e: api.ErrLimit}
	}
	var r result
	for at := 0; at < len(s); {
		kind, text, e := pieceOf(s[at:])
		if e != api.OK {
			return result{comments: r.comments, at: at, e: e}
		}
		switch {
		case kind == api.TokComment:
			r.comments = append(r.comments, api.Token{Kind: kind, Text: text, At: at})
		case kind != 0:
			r.tokens = append(r.tokens, api.Token{Kind: kind, Text: text, At: at})
		case text == "\n" && inserts(r.tokens):
			r.tokens = append(r.tokens, api.Token{Kind: api.TokOperator, Text: ";", At: at})
		}
		at += len(text)
	}
	return r
}

// pieces are parts of texts with every kind of token, of what separates tokens, and of errors.
var pieces = []string{
	" ", "\t", "\r", "\n", "a", "_", "return", "go", "0", "7", "(", ")", "}", ":", "=", "<", "-", "!", "&", "/", "//", "// c\n", "#", "\xc3",
}

// joined returns all texts of at most most parts.
func joined(parts []string, most int) []string {
	all := []string{""}
	for from := 0; most > 0; most-- {
		to := len(all)
		for _, s := range all[from:to] {
			for _, p := range parts {
				all = append(all, s+p)
			}
		}
		from = to
	}
	return all
}

// programs are texts as they occur in practice.
func programs() []string {
	return []string{
		"var x int\nfunc main() {\ngo func() { x = 1 }()\nx = 2\n}",
		"// a counter\ntype C struct {\n\tm mutex // guards n\n\tn int\n}\n\nvar c *C\n\nfunc add(k int) bool {\n\tc.m.Lock()\n\tdefer c.m.Unlock()\n\tif c.n+k >= 10 || !(k != 0) {\n\t\treturn false\n\t}\n\tc.n = c.n + k*2%7\n\treturn true\n}\n",
		"func main() {\r\n\tch := make(chan int, 1)\r\n\tselect {\r\n\tcase ch <- 9223372036854775807:\r\n\tcase v := <-ch: // received\r\n\t\tprint(v)\r\n\tdefault:\r\n\t}\r\n}\r\n",
		"func f(a []int,b *T)int{return a[0]/len(a)-b.x}//end",
		"if x<=-1&&!y||z>=w {\n}\n\n\n// last\n",
	}
}

// samples are the texts on which the properties are tested.
func samples() []string {
	return append(joined(pieces, 3), programs()...)
}
