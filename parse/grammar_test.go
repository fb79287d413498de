package parse_test

import (
	"slices"
	"strings"

	"portcullis/api"
)

// grammar: the texts of layer 3. What a line's first word stands for is told by the others; NAME and NUMBER are tokens of that kind.
const grammar = `PROGRAM
PROGRAM PROGRAM DECL
DECL lock NAME ;
DECL chan NAME NUMBER ;
DECL struct NAME { FIELDS }
DECL var NAME TYPE ;
DECL input NAME ;
DECL sink NAME ;
DECL func NAME ( ) RESULT BLOCK
DECL func NAME ( PARAMS ) RESULT BLOCK
DECL thread NAME BLOCK
FIELDS
FIELDS FIELDS NAME TYPE ;
PARAMS NAME TYPE
PARAMS PARAMS , NAME TYPE
RESULT
RESULT TYPE
TYPE int
TYPE bool
TYPE [ ] int
TYPE * NAME
BLOCK { }
BLOCK { STMTS }
STMTS STMT
STMTS STMTS STMT
STMT var NAME TYPE = EXPR ;
STMT set PLACE = EXPR ;
STMT if EXPR BLOCK
STMT if EXPR BLOCK else { STMTS }
STMT while EXPR BLOCK
STMT lock NAME ;
STMT unlock NAME ;
STMT send NAME EXPR ;
STMT recv NAME NAME ;
STMT out NAME EXPR ;
STMT call NAME ( ) ;
STMT call NAME ( ARGS ) ;
STMT call NAME = NAME ( ) ;
STMT call NAME = NAME ( ARGS ) ;
STMT return ;
STMT return EXPR ;
ARGS EXPR
ARGS ARGS , EXPR
PLACE NAME
PLACE EXPR . NAME
PLACE EXPR [ EXPR ]
EXPR NUMBER
EXPR true
EXPR false
EXPR nil
EXPR NAME
EXPR EXPR . NAME
EXPR EXPR [ EXPR ]
EXPR EXPR [ EXPR : EXPR ]
EXPR len ( EXPR )
EXPR ( - EXPR )
EXPR ( ! EXPR )
EXPR ( EXPR SIGN EXPR )
EXPR new NAME
EXPR make ( EXPR )
EXPR release NAME
SIGN +
SIGN -
SIGN *
SIGN /
SIGN %
SIGN &
SIGN |
SIGN <
SIGN <=
SIGN ==
SIGN !=`

// rules are a grammar's lines, the empty ones among them by what they stand for.
type rules struct {
	lines [][]string
	of    map[string][]int
	empty map[string]bool
}

func newRules() *rules {
	r := &rules{of: map[string][]int{}, empty: map[string]bool{}}
	for i, line := range strings.Split(grammar, "\n") {
		words := strings.Fields(line)
		r.lines = append(r.lines, words)
		r.of[words[0]] = append(r.of[words[0]], i)
		r.empty[words[0]] = r.empty[words[0]] || len(words) == 1
	}
	return r
}

// item is a line of which the words ahead of a place have been read, from a token on.
type item struct{ line, place, from int }

// chart tells of some tokens what all may be read of them: Earley's sets.
type chart struct {
	*rules
	start string
	sets  [][]item
}

func (r *rules) chart(start string) chart {
	var first []item
	for _, line := range r.of[start] {
		first = append(first, item{line, 1, 0})
	}
	c := chart{r, start, [][]item{first}}
	c.close()
	return c
}

// ahead: the word that an item comes to next, "" at its end.
func (c chart) ahead(i item) string {
	if i.place == len(c.lines[i.line]) {
		return ""
	}
	return c.lines[i.line][i.place]
}

// close adds to the last set all that its items lead to.
func (c chart) close() {
	last := len(c.sets) - 1
	known := map[item]bool{}
	for _, i := range c.sets[last] {
		known[i] = true
	}
	add := func(i item) {
		if !known[i] {
			known[i] = true
			c.sets[last] = append(c.sets[last], i)
		}
	}
	for at := 0; at < len(c.sets[last]); at++ {
		i := c.sets[last][at]
		word := c.ahead(i)
		if word == "" {
			for _, j := range c.sets[i.from] {
				if c.ahead(j) == c.lines[i.line][0] {
					add(item{j.line, j.place + 1, j.from})
				}
			}
			continue
		}
		for _, line := range c.of[word] {
			add(item{line, 1, last})
		}
		if c.empty[word] {
			add(item{i.line, i.place + 1, i.from})
		}
	}
}

// next: the chart of one token more; false, if it can't stand there.
func (c chart) next(t api.Token) (chart, bool) {
	word := t.Text
	switch t.Kind {
	case api.TName:
		word = "NAME"
	case api.TNumber:
		word = "NUMBER"
	}
	var set []item
	for _, i := range c.sets[len(c.sets)-1] {
		if c.ahead(i) == word {
			set = append(set, item{i.line, i.place + 1, i.from})
		}
	}
	if len(set) == 0 {
		return chart{}, false
	}
	c.sets = append(slices.Clip(c.sets), set)
	c.close()
	return c, true
}

// whole: can the text end there?
func (c chart) whole() bool {
	return slices.ContainsFunc(c.sets[len(c.sets)-1], func(i item) bool {
		return i.from == 0 && c.ahead(i) == "" && c.lines[i.line][0] == c.start
	})
}

// wrong: the place of the first token, or of the end, that can't stand where it does; -1, if there is none.
func (c chart) wrong(tokens []api.Token, end int) int {
	for _, t := range tokens {
		next, ok := c.next(t)
		if !ok {
			return t.At
		}
		c = next
	}
	if !c.whole() {
		return end
	}
	return -1
}
