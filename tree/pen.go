package tree

import (
	"slices"
	"strconv"
	"strings"

	"portcullis/api"
	"portcullis/lex"
)

// blockDeep: how deep a declaration's block is.
const blockDeep = 1

// maxNum: the greatest number that has a token (layer 2).
const maxNum = 1e18 - 1

// pen writes tokens. Its methods write a part of a tree, or panic, if that isn't right. Each takes what it writes out of its own copy of the part, so that what is left there in the end is what the part's kind has no use for.
type pen func(tokens ...string)

func (put pen) program(p api.Program) {
	must(len(p.Decls) <= api.MaxDecls)
	for _, d := range p.Decls {
		put.decl(d)
	}
}

func (put pen) decl(d api.Decl) {
	name := takeName(&d.Name)
	switch d.Kind {
	case api.DLock:
		put("lock", name, ";")
	case api.DChan:
		put("chan", name, takeNum(&d.Num, 1, api.MaxCap), ";")
	case api.DStruct:
		put("struct", name)
		put.fields(take(&d.Pairs))
	case api.DVar:
		put("var", name)
		put.types(take(&d.Type))
		put(";")
	case api.DInput:
		put("input", name, ";")
	case api.DSink:
		put("sink", name, ";")
	case api.DFunc:
		put("func", name)
		put.params(take(&d.Pairs))
		if d.Type != "" {
			put.types(take(&d.Type))
		}
		put.block(take(&d.Body), blockDeep)
	case api.DThread:
		put("thread", name)
		put.block(take(&d.Body), blockDeep)
	default:
		must(false)
	}
	must(d.Num == 0 && d.Type == "" && len(d.Pairs) == 0 && len(d.Body) == 0)
}

func (put pen) fields(list []api.Pair) {
	must(len(list) <= api.MaxFields)
	put("{")
	for _, field := range list {
		put.pair(field)
		put(";")
	}
	put("}")
}

func (put pen) params(list []api.Pair) {
	must(len(list) <= api.MaxParams)
	put("(")
	for i, param := range list {
		put.comma(i)
		put.pair(param)
	}
	put(")")
}

// args: a call's arguments, which are so deep. There are no more of them than parameters may be: no text has more (layer 4).
func (put pen) args(list []api.Expr, deep int) {
	must(len(list) <= api.MaxParams)
	put("(")
	for i, arg := range list {
		put.comma(i)
		put.expr(arg, deep, 0)
	}
	put(")")
}

// comma parts a list's element from so many ahead of it.
func (put pen) comma(ahead int) {
	if ahead > 0 {
		put(",")
	}
}

func (put pen) pair(p api.Pair) {
	put(takeName(&p.Name))
	put.types(p.Type)
}

func (put pen) types(t string) {
	name, pointer := strings.CutPrefix(t, "*")
	switch {
	case pointer:
		put("*", takeName(&name))
	case t == "[]int":
		put("[", "]", "int")
	default:
		must(t == "int" || t == "bool")
		put(t)
	}
}

func (put pen) block(list []api.Stmt, deep int) {
	must(deep <= api.MaxDeep)
	put("{")
	for _, s := range list {
		put.stmt(s, deep)
	}
	put("}")
}

// stmt: a statement of a block that is so deep.
func (put pen) stmt(s api.Stmt, deep int) {
	block := func(list *[]api.Stmt) { put.block(take(list), deep+1) }
	name := func() string { return takeName(&s.Name) }
	expr := func(behind ...string) {
		put.expr(takeFirst(&s.Exprs), deep+1, 0)
		put(behind...)
	}
	switch s.Kind {
	case api.SVar:
		put("var", name())
		put.types(take(&s.Type))
		put("=")
		expr(";")
	case api.SSet:
		must(len(s.Exprs) > 0 && isPlace(s.Exprs[0]))
		put("set")
		expr("=")
		expr(";")
	case api.SIf:
		put("if")
		expr()
		block(&s.Body)
		if len(s.Else) > 0 {
			put("else")
			block(&s.Else)
		}
	case api.SWhile:
		put("while")
		expr()
		block(&s.Body)
	case api.SLock:
		put("lock", name(), ";")
	case api.SUnlock:
		put("unlock", name(), ";")
	case api.SSend:
		put("send", name())
		expr(";")
	case api.SRecv:
		put("recv", name(), takeName(&s.Type), ";")
	case api.SOut:
		put("out", name())
		expr(";")
	case api.SCall:
		put.call(take(&s.Type), name(), take(&s.Exprs), deep+1)
	case api.SReturn:
		put("return")
		if len(s.Exprs) > 0 {
			expr()
		}
		put(";")
	default:
		must(false)
	}
	must(s.Name == "" && s.Type == "" && len(s.Exprs) == 0 && len(s.Body) == 0 && len(s.Else) == 0)
}

// call: the call of a function, whose result goes to a local, if there is one.
func (put pen) call(local, name string, args []api.Expr, deep int) {
	put("call")
	if local != "" {
		put(takeName(&local), "=")
	}
	put(name)
	put.args(args, deep)
	put(";")
}

// expr: an expression that is so deep, and is the first part of so many fields, indexes and cuts one behind the other.
func (put pen) expr(e api.Expr, deep, chain int) {
	must(deep <= api.MaxDeep)
	name := func() string { return takeName(&e.Name) }
	arg := func(behind ...string) {
		put.expr(takeFirst(&e.Args), deep+1, 0)
		put(behind...)
	}
	object := func(behind ...string) {
		must(chain < api.MaxChain)
		put.expr(takeFirst(&e.Args), deep, chain+1)
		put(behind...)
	}
	switch e.Kind {
	case api.EInt:
		put(takeNum(&e.Num, 0, maxNum))
	case api.EBool:
		put(takeBool(&e.Num))
	case api.ENil:
		put("nil")
	case api.EName:
		put(name())
	case api.EField:
		object(".", name())
	case api.EIndex:
		object("[")
		arg("]")
	case api.ESlice:
		object("[")
		arg(":")
		arg("]")
	case api.ELen:
		put("len", "(")
		arg(")")
	case api.EUnary:
		put("(", takeSign(&e.Name, "-", "!"))
		arg(")")
	case api.EBinary:
		put("(")
		arg(takeSign(&e.Name, "+", "-", "*", "/", "%", "&", "|", "<", "<=", "==", "!="))
		arg(")")
	case api.ENew:
		put("new", name())
	case api.EMake:
		put("make", "(")
		arg(")")
	case api.ERelease:
		put("release", name())
	default:
		must(false)
	}
	must(e.Num == 0 && e.Name == "" && len(e.Args) == 0)
}

// isPlace: can something be set there?
func isPlace(e api.Expr) bool {
	return e.Kind == api.EName || e.Kind == api.EField || e.Kind == api.EIndex
}

// take: what stands in a field, which is empty behind it.
func take[T any](field *T) T {
	var none T
	value := *field
	*field = none
	return value
}

// takeFirst: a list's first element.
func takeFirst(list *[]api.Expr) api.Expr {
	must(len(*list) > 0)
	first := (*list)[0]
	*list = (*list)[1:]
	return first
}

func takeName(field *string) string {
	must(lex.Name(*field))
	return take(field)
}

func takeSign(field *string, signs ...string) string {
	must(slices.Contains(signs, *field))
	return take(field)
}

// takeNum: a number from least to most, in digits.
func takeNum(field *int, least, most int) string {
	must(least <= *field && *field <= most)
	return strconv.Itoa(take(field))
}

func takeBool(field *int) string {
	must(*field == 0 || *field == 1)
	if take(field) == 1 {
		return "true"
	}
	return "false"
}
