package sample

import (
	"slices"

	"portcullis/api"
)

// Spare: the same program, all of whose lists have something in their memory behind their ends.
func Spare(p api.Program) api.Program { return rooms(false).program(p) }

// SpareExpr: likewise an expression.
func SpareExpr(e api.Expr) api.Expr { return rooms(false).exprs([]api.Expr{e})[0] }

// Whole: a copy of a program whose lists go to the end of their memory, to be held against another.
func Whole(p api.Program) api.Program { return rooms(true).program(p) }

// WholeExpr: likewise of an expression.
func WholeExpr(e api.Expr) api.Expr { return rooms(true).exprs([]api.Expr{e})[0] }

// SpareCode: as Spare, of code.
func SpareCode(m api.Module) api.Module { return rooms(false).module(m) }

// WholeCode: as Whole, of code.
func WholeCode(m api.Module) api.Module { return rooms(true).module(m) }

// rooms tells whether the memory behind lists is opened, or made.
type rooms bool

func room[T any](open rooms, list []T, spare T) []T {
	if open {
		return slices.Clone(list[:cap(list)])
	}
	return append(slices.Clone(list), spare)[:len(list)]
}

func (r rooms) program(p api.Program) api.Program {
	p.Decls = room(r, p.Decls, api.Decl{Kind: 77, Name: "spare"})
	for i, d := range p.Decls {
		p.Decls[i].Pairs = room(r, d.Pairs, api.Pair{Name: "spare"})
		p.Decls[i].Body = r.stmts(d.Body)
	}
	return p
}

func (r rooms) stmts(list []api.Stmt) []api.Stmt {
	list = room(r, list, api.Stmt{Kind: 77, Name: "spare"})
	for i, s := range list {
		list[i].Exprs, list[i].Body, list[i].Else = r.exprs(s.Exprs), r.stmts(s.Body), r.stmts(s.Else)
	}
	return list
}

func (r rooms) exprs(list []api.Expr) []api.Expr {
	list = room(r, list, api.Expr{Kind: 77, Name: "spare"})
	for i, e := range list {
		list[i].Args = r.exprs(e.Args)
	}
	return list
}

func (r rooms) module(m api.Module) api.Module {
	spare := api.Sized{Name: "spare", Size: 77}
	m.Globals, m.Structs, m.Chans = room(r, m.Globals, spare), room(r, m.Structs, spare), room(r, m.Chans, spare)
	m.Locks, m.Inputs, m.Sinks, m.Hatches = room(r, m.Locks, "spare"), room(r, m.Inputs, "spare"), room(r, m.Sinks, "spare"), room(r, m.Hatches, "spare")
	m.Threads, m.Funcs = room(r, m.Threads, 77), room(r, m.Funcs, api.Func{Name: "spare"})
	for i, f := range m.Funcs {
		m.Funcs[i].Code = room(r, f.Code, api.Op{Kind: 77})
		for k, o := range m.Funcs[i].Code {
			m.Funcs[i].Code[k].Args = room(r, o.Args, 77)
		}
	}
	return m
}
