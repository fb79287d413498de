package scope

import (
	"strings"

	"portcullis/api"
)

// body is a function or a thread while it is read: its locals are those ahead of what comes next.
type body struct {
	*names
	locals []api.Pair
}

func (b *body) params(list []api.Pair) {
	for _, q := range list {
		if b.left < 0 {
			return
		}
		b.add(q.Name, q.Type)
	}
}

// add: a local more, unless one has its name.
func (b *body) add(name, typ string) {
	if !has(b.locals, name) {
		b.locals = append(b.locals, api.Pair{Name: strings.Clone(name), Type: strings.Clone(typ)})
	}
}

func (b *body) stmts(list []api.Stmt) {
	for _, s := range list {
		if !b.more(s.Name, s.Type) {
			return
		}
		b.stmt(s)
	}
}

func (b *body) stmt(s api.Stmt) {
	// A local doesn't stand ahead of its own first value.
	b.exprs(s.Exprs)
	switch s.Kind {
	case api.SVar:
		b.declare(s)
	case api.SLock, api.SUnlock:
		b.use(s.At, s.Name, api.DLock)
	case api.SSend:
		b.use(s.At, s.Name, api.DChan)
	case api.SRecv:
		b.use(s.At, s.Name, api.DChan)
		b.useLocal(s.At, s.Type)
	case api.SOut:
		b.use(s.At, s.Name, api.DSink)
	case api.SCall:
		b.use(s.At, s.Name, api.DFunc)
		b.useLocal(s.At, s.Type)
	}
	b.stmts(s.Body)
	b.stmts(s.Else)
}

func (b *body) declare(s api.Stmt) {
	b.useType(s.At, s.Type)
	if has(b.locals, s.Name) || b.declared(s.Name) {
		b.tell(s.At, api.ErrTwice, s.Name)
	}
	if len(b.locals) >= api.MaxLocals {
		b.tell(s.At, api.ErrMany, s.Name)
	}
	b.add(s.Name, s.Type)
}

// useLocal: the name of a local stands in the statement at a place, or none. A declaration of whatever kind is another thing.
func (b *body) useLocal(at int, name string) {
	if name != "" && !has(b.locals, name) {
		b.use(at, name)
	}
}

func (b *body) exprs(list []api.Expr) {
	for _, e := range list {
		if !b.more(e.Name, "") {
			return
		}
		switch {
		case e.Kind == api.EName && !has(b.locals, e.Name):
			b.use(e.At, e.Name, api.DVar, api.DInput)
		case e.Kind == api.ENew:
			b.use(e.At, e.Name, api.DStruct)
		}
		b.exprs(e.Args)
	}
}
