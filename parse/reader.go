package parse

import (
	"slices"
	"strconv"

	"portcullis/api"
)

// end is the text of the token that stands behind a text's own, none of which has it.
const end = ""

// reader holds the tokens that haven't been read. Its methods read a part of a tree, or panic with a fault.
type reader struct{ tokens []api.Token }

func (r *reader) next() api.Token { return r.tokens[0] }

func (r *reader) pop() api.Token {
	t := r.tokens[0]
	r.tokens = r.tokens[1:]
	return t
}

// must: unless this holds, the next token is wrong.
func (r *reader) must(holds bool, e api.Errno) {
	if !holds {
		panic(fault{r.next().At, e})
	}
}

// room: the next token must be one that an element of a list can begin with, and the list must have room for the element behind those ahead of it.
func (r *reader) room(begins bool, ahead, most int) {
	r.must(begins, api.ErrToken)
	r.must(ahead < most, api.ErrMany)
}

// take: the next token, which must have one of these texts.
func (r *reader) take(texts ...string) api.Token {
	r.must(slices.Contains(texts, r.next().Text), api.ErrToken)
	return r.pop()
}

// skip: is it the next token, which then is read?
func (r *reader) skip(text string) bool {
	if r.next().Text != text {
		return false
	}
	r.pop()
	return true
}

func (r *reader) isName() bool { return r.next().Kind == api.TName }

func (r *reader) name() string {
	r.must(r.isName(), api.ErrToken)
	return r.pop().Text
}

// until reads the elements of a list, at least so many, and the token behind them. Each element is told how many are ahead of it.
func (r *reader) until(shut string, least int, element func(ahead int)) {
	for ahead := 0; ahead < least || r.next().Text != shut; ahead++ {
		element(ahead)
	}
	r.take(shut)
}

// comma parts a list's element from those ahead of it.
func (r *reader) comma(ahead int) {
	if ahead > 0 {
		r.take(",")
	}
}

func (r *reader) program() api.Program {
	var p api.Program
	r.until(end, 0, func(ahead int) { p.Decls = append(p.Decls, r.decl(ahead)) })
	return p
}

// decl: a declaration with so many ahead of it.
func (r *reader) decl(ahead int) api.Decl {
	word := r.take("lock", "chan", "struct", "var", "input", "sink", "func", "thread").Text
	r.room(r.isName(), ahead, api.MaxDecls)
	name := r.pop()
	d := api.Decl{At: name.At, Name: name.Text}
	switch word {
	case "struct":
		d.Kind, d.Pairs = api.DStruct, r.fields()
		return d
	case "func":
		d.Kind, d.Pairs = api.DFunc, r.params()
		if r.next().Text != "{" {
			d.Type = r.types()
		}
		d.Body = r.block(blockDeep, 0)
		return d
	case "thread":
		d.Kind, d.Body = api.DThread, r.block(blockDeep, 0)
		return d
	case "lock":
		d.Kind = api.DLock
	case "chan":
		d.Kind, d.Num = api.DChan, r.places()
	case "var":
		d.Kind, d.Type = api.DVar, r.types()
	case "input":
		d.Kind = api.DInput
	case "sink":
		d.Kind = api.DSink
	}
	r.take(";")
	return d
}

// places: how many places a channel has.
func (r *reader) places() int {
	r.must(r.next().Kind == api.TNumber, api.ErrToken)
	n := number(r.next())
	r.must(1 <= n && n <= api.MaxCap, api.ErrNumber)
	r.pop()
	return n
}

func (r *reader) fields() []api.Pair {
	var list []api.Pair
	r.take("{")
	r.until("}", 0, func(ahead int) {
		list = append(list, r.pair(ahead, api.MaxFields))
		r.take(";")
	})
	return list
}

func (r *reader) params() []api.Pair {
	var list []api.Pair
	r.take("(")
	r.until(")", 0, func(ahead int) {
		r.comma(ahead)
		list = append(list, r.pair(ahead, api.MaxParams))
	})
	return list
}

// pair: a field or a parameter of a list of at most so many.
func (r *reader) pair(ahead, most int) api.Pair {
	r.room(r.isName(), ahead, most)
	name := r.name()
	return api.Pair{Name: name, Type: r.types()}
}

func (r *reader) types() string {
	switch t := r.take("int", "bool", "[", "*").Text; t {
	case "[":
		r.take("]")
		r.take("int")
		return "[]int"
	case "*":
		return "*" + r.name()
	default:
		return t
	}
}

// block: a block that is so deep, and has at least so many statements. None is too deep: ahead of a block in a statement stands a condition that is as deep, and would have been found.
func (r *reader) block(deep, least int) []api.Stmt {
	var list []api.Stmt
	r.take("{")
	r.until("}", least, func(int) { list = append(list, r.stmt(deep)) })
	return list
}

// stmt: a statement of a block that is so deep.
func (r *reader) stmt(deep int) api.Stmt {
	word := r.take("var", "set", "if", "while", "lock", "unlock", "send", "recv", "out", "call", "return")
	s := api.Stmt{At: word.At}
	expr := func() { s.Exprs = append(s.Exprs, r.expr(deep+1)) }
	switch word.Text {
	case "if":
		s.Kind = api.SIf
		expr()
		s.Body = r.block(deep+1, 0)
		if r.skip("else") {
			s.Else = r.block(deep+1, 1)
		}
		return s
	case "while":
		s.Kind = api.SWhile
		expr()
		s.Body = r.block(deep+1, 0)
		return s
	case "var":
		s.Kind, s.Name = api.SVar, r.name()
		s.Type = r.types()
		r.take("=")
		expr()
	case "set":
		s.Kind = api.SSet
		expr()
		// What is no place may become one by what stands behind it, so that only the token behind all of it is wrong.
		r.must(isPlace(s.Exprs[0]), api.ErrToken)
		r.take("=")
		expr()
	case "lock":
		s.Kind, s.Name = api.SLock, r.name()
	case "unlock":
		s.Kind, s.Name = api.SUnlock, r.name()
	case "send":
		s.Kind, s.Name = api.SSend, r.name()
		expr()
	case "recv":
		s.Kind, s.Name = api.SRecv, r.name()
		s.Type = r.name()
	case "out":
		s.Kind, s.Name = api.SOut, r.name()
		expr()
	case "call":
		s.Kind, s.Name = api.SCall, r.name()
		if r.skip("=") {
			s.Type = s.Name
			s.Name = r.name()
		}
		s.Exprs = r.args(deep + 1)
	case "return":
		s.Kind = api.SReturn
		if r.next().Text != ";" {
			expr()
		}
	}
	r.take(";")
	return s
}

// args: a call's arguments, which are so deep.
func (r *reader) args(deep int) []api.Expr {
	var list []api.Expr
	r.take("(")
	r.until(")", 0, func(ahead int) {
		r.comma(ahead)
		r.room(r.opens(), ahead, api.MaxParams)
		list = append(list, r.expr(deep))
	})
	return list
}

// opens: can an expression begin with the next token?
func (r *reader) opens() bool {
	switch r.next().Text {
	case "true", "false", "nil", "len", "(", "new", "make", "release":
		return true
	}
	return r.isName() || r.next().Kind == api.TNumber
}

// expr: an expression that is so deep.
func (r *reader) expr(deep int) api.Expr {
	r.must(r.opens(), api.ErrToken)
	r.must(deep <= api.MaxDeep, api.ErrDeep)
	e := r.first(deep)
	for chain := 0; r.next().Text == "." || r.next().Text == "["; chain++ {
		r.must(chain < api.MaxChain, api.ErrDeep)
		e = r.link(e, deep)
	}
	return e
}

// first: an expression's first part.
func (r *reader) first(deep int) api.Expr {
	t := r.pop()
	e := api.Expr{At: t.At}
	arg := func() { e.Args = append(e.Args, r.expr(deep+1)) }
	bracketed := func() {
		r.take("(")
		arg()
		r.take(")")
	}
	switch t.Text {
	case "true":
		e.Kind, e.Num = api.EBool, 1
	case "false":
		e.Kind = api.EBool
	case "nil":
		e.Kind = api.ENil
	case "len":
		e.Kind = api.ELen
		bracketed()
	case "make":
		e.Kind = api.EMake
		bracketed()
	case "new":
		e.Kind, e.Name = api.ENew, r.name()
	case "release":
		e.Kind, e.Name = api.ERelease, r.name()
	case "(":
		if sign := r.next().Text; sign == "-" || sign == "!" {
			e.Kind, e.Name = api.EUnary, r.pop().Text
		} else {
			e.Kind = api.EBinary
			arg()
			e.Name = r.take("+", "-", "*", "/", "%", "&", "|", "<", "<=", "==", "!=").Text
		}
		arg()
		r.take(")")
	default:
		if t.Kind == api.TNumber {
			e.Kind, e.Num = api.EInt, number(t)
		} else {
			e.Kind, e.Name = api.EName, t.Text
		}
	}
	return e
}

// link: a field, an index or a cut of an object that stands ahead of it, and is as deep.
func (r *reader) link(object api.Expr, deep int) api.Expr {
	t := r.pop()
	e := api.Expr{Kind: api.EField, At: t.At, Args: []api.Expr{object}}
	if t.Text == "." {
		e.Name = r.name()
		return e
	}
	e.Kind = api.EIndex
	e.Args = append(e.Args, r.expr(deep+1))
	if r.skip(":") {
		e.Kind = api.ESlice
		e.Args = append(e.Args, r.expr(deep+1))
	}
	r.take("]")
	return e
}

// isPlace: can something be set there?
func isPlace(e api.Expr) bool {
	return e.Kind == api.EName || e.Kind == api.EField || e.Kind == api.EIndex
}

// number: a token's number; each that layer 2 lets through fits in 64 bits.
func number(t api.Token) int {
	n, _ := strconv.Atoi(t.Text)
	return n
}
