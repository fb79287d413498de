package types

import (
	"slices"

	"portcullis/api"
	"portcullis/scope"
)

// operator is a sign of EUnary or EBinary.
type operator struct {
	kind int
	sign string
}

// meaning is of which types an operator is, and which type it gives; nil: of any two that can be held against each other.
type meaning struct {
	of    []string
	gives string
}

func operators() map[operator]meaning {
	twoInts, twoBools := []string{integer, integer}, []string{boolean, boolean}
	return map[operator]meaning{
		{api.EUnary, "-"}:   {[]string{integer}, integer},
		{api.EUnary, "!"}:   {[]string{boolean}, boolean},
		{api.EBinary, "+"}:  {twoInts, integer},
		{api.EBinary, "-"}:  {twoInts, integer},
		{api.EBinary, "*"}:  {twoInts, integer},
		{api.EBinary, "/"}:  {twoInts, integer},
		{api.EBinary, "%"}:  {twoInts, integer},
		{api.EBinary, "&"}:  {twoBools, boolean},
		{api.EBinary, "|"}:  {twoBools, boolean},
		{api.EBinary, "<"}:  {twoInts, boolean},
		{api.EBinary, "<="}: {twoInts, boolean},
		{api.EBinary, "=="}: {nil, boolean},
		{api.EBinary, "!="}: {nil, boolean},
	}
}

// exprs: the types of a list; false, if something in it is wrong.
func (t *typer) exprs(list []api.Expr) ([]string, bool) {
	var types []string
	for _, e := range list {
		types = append(types, t.expr(e))
		// Trees that no text has may hold their parts again and again, or within themselves: reading them would not end.
		if t.left < 0 {
			return nil, false
		}
	}
	return types, !slices.Contains(types, "")
}

// expr: an expression's type; none, if it is wrong.
func (t *typer) expr(e api.Expr) string {
	t.left -= 1 + len(e.Name)
	if t.left < 0 {
		return ""
	}
	args, right := t.exprs(e.Args)
	if !right {
		return ""
	}
	typ := t.typed(e, args)
	if typ == "" {
		t.wrong(e, args)
	}
	return typ
}

// wrong tells an expression of which no type is told, of Args that are not wrong.
func (t *typer) wrong(e api.Expr, args []string) {
	if e.Kind == api.EField && t.object(args).Kind == api.DStruct {
		t.tell(e.At, api.ErrNone, e.Name)
	} else {
		t.tell(e.At, api.ErrType, "")
	}
}

// typed: an expression's type, by those of its Args; none, if they don't fit.
func (t *typer) typed(e api.Expr, args []string) string {
	switch e.Kind {
	case api.EInt, api.ERelease:
		return integer
	case api.EBool:
		return boolean
	case api.ENil:
		return null
	case api.EName:
		return t.name(e.Name)
	case api.EField:
		return named(t.object(args).Pairs, e.Name)
	case api.EIndex:
		return given(integer, allGo(args, words, integer))
	case api.ESlice:
		return given(words, allGo(args, words, integer, integer))
	case api.ELen:
		return given(integer, allGo(args, words))
	case api.EUnary, api.EBinary:
		return t.operated(operator{e.Kind, e.Name}, args)
	case api.ENew:
		return "*" + e.Name
	case api.EMake:
		return given(words, allGo(args, integer))
	}
	return ""
}

// given: a type, if something holds.
func given(typ string, holds bool) string {
	if !holds {
		return ""
	}
	return typ
}

func (t *typer) name(name string) string {
	d := t.global(name)
	switch d.Kind {
	case api.DInput:
		return integer
	case api.DVar:
		return d.Type
	}
	return named(t.locals, name)
}

// operated: what an operator gives of some types.
func (t *typer) operated(o operator, of []string) string {
	m, known := t.operators[o]
	if known && m.of == nil {
		return given(m.gives, alike(of))
	}
	return given(m.gives, known && allGo(of, m.of...))
}

// object: the struct that the object of an EField has; a declaration of no kind, if it has none.
func (t *typer) object(args []string) api.Decl {
	if len(args) != 1 || !isPointer(args[0]) {
		return api.Decl{}
	}
	i := scope.Find(t.program, args[0][1:])
	if i < 0 || t.program.Decls[i].Kind != api.DStruct {
		return api.Decl{}
	}
	return t.program.Decls[i]
}

// alike: are they two that can be held against each other?
func alike(types []string) bool {
	return len(types) == 2 && types[0] != words && (goes(types[0], types[1]) || goes(types[1], types[0]))
}
