package sample

import (
	"portcullis/api"
	"portcullis/lex"
)

// Reader reads the tokens of a text that layer 4 reads, one after the other; K is the number of the next one.
type Reader struct {
	Tokens []api.Token
	K      int
}

// Read: a reader at a text's beginning.
func Read(s string) Reader {
	tokens, _, _ := lex.Tokens(s)
	return Reader{Tokens: tokens}
}

// Text: the next token; "" at the end.
func (r *Reader) Text() string {
	if r.K >= len(r.Tokens) {
		return ""
	}
	return r.Tokens[r.K].Text
}

// At: the next token's place.
func (r *Reader) At() int { return r.Tokens[r.K].At }

// Next: this token, behind which reading goes on.
func (r *Reader) Next() string {
	r.K++
	return r.Tokens[r.K-1].Text
}

// Is: does this token stand here? If so, reading goes on behind it.
func (r *Reader) Is(token string) bool {
	if r.Text() != token {
		return false
	}
	r.K++
	return true
}

// Type reads a type.
func (r *Reader) Type() string {
	switch word := r.Next(); word {
	case "[":
		r.K += 2
		return "[]int"
	case "*":
		return "*" + r.Next()
	default:
		return word
	}
}

// Pairs reads names with types up to a token; signs between them are left out.
func (r *Reader) Pairs(end string) []api.Pair {
	var list []api.Pair
	for !r.Is(end) {
		if !r.Is(",") && !r.Is(";") {
			name := r.Next()
			list = append(list, api.Pair{Name: name, Type: r.Type()})
		}
	}
	return list
}
