package types

import (
	"portcullis/api"
	"portcullis/scope"
)

// body is a function or a thread while it is read.
type body struct {
	*typer
	result []string // its result's type, if it has one
}

func (b *body) read(d api.Decl) {
	b.result = nil
	if d.Type != "" {
		b.result = []string{d.Type}
	}
	b.stmts(d.Body)
}

func (b *body) stmts(list []api.Stmt) {
	for _, s := range list {
		if types, right := b.exprs(s.Exprs); right && !b.fits(s, types) {
			b.tell(s.At, wrongAs(s.Kind), "")
		}
		b.stmts(s.Body)
		b.stmts(s.Else)
	}
}

// wrongAs: as what a statement of a kind is wrong.
func wrongAs(kind int) api.Errno {
	if kind == api.SReturn {
		return api.ErrReturn
	}
	return api.ErrType
}

// fits: do the types of a statement's expressions fit?
func (b *body) fits(s api.Stmt, types []string) bool {
	switch s.Kind {
	case api.SVar:
		return allGo(types, s.Type)
	case api.SSet:
		return len(types) == 2 && !b.isInput(s.Exprs[0]) && goes(types[1], types[0])
	case api.SIf, api.SWhile:
		return allGo(types, boolean)
	case api.SSend, api.SOut:
		return allGo(types, integer)
	case api.SRecv:
		return named(b.locals, s.Type) == integer
	case api.SCall:
		return b.fitsCall(s, types)
	case api.SReturn:
		return allGo(types, b.result...)
	}
	return true
}

func (b *body) isInput(place api.Expr) bool {
	return place.Kind == api.EName && b.global(place.Name).Kind == api.DInput
}

func (b *body) fitsCall(s api.Stmt, types []string) bool {
	called := b.program.Decls[scope.Find(b.program, s.Name)]
	var params []string
	for _, q := range called.Pairs {
		params = append(params, q.Type)
	}
	return allGo(types, params...) && (s.Type == "" || goes(called.Type, named(b.locals, s.Type)))
}
