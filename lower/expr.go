package lower

import (
	"portcullis/api"
	"portcullis/word"
)

// exprs evaluates a list: the registers of all its values.
func (m *maker) exprs(list []api.Expr) []int {
	var all []int
	for _, e := range list {
		all = append(all, m.expr(e).numbers()...)
	}
	return all
}

// expr evaluates an expression: its registers, and what they hold.
func (m *maker) expr(e api.Expr) span {
	switch e.Kind {
	case api.EName:
		return m.name(e)
	case api.EField:
		return m.get(e)
	}
	return m.operated(e, m.exprs(e.Args))
}

func (m *maker) name(e api.Expr) span {
	if local, there := m.locals[e.Name]; there {
		return local
	}
	global, there := m.globals[e.Name]
	if !there {
		return m.made(integer, api.Op{Kind: api.OInput, B: m.number(m.table.Inputs, e.Name), At: e.At})
	}
	to := m.fresh(global.typ)
	m.each(words(to.typ), func(k int) api.Op {
		return api.Op{Kind: api.OLoad, A: to.first + k, B: global.first + k, K: k, At: e.At}
	})
	return to
}

func (m *maker) get(e api.Expr) span {
	object := m.expr(e.Args[0])
	from := m.fields[field{object.typ, e.Name}]
	to := m.fresh(from.typ)
	m.each(words(to.typ), func(k int) api.Op {
		return api.Op{Kind: api.OGet, A: to.first + k, B: object.first, C: from.first + k, K: k, At: e.At}
	})
	return to
}

// operated: what an expression makes of its Args, which are in these registers.
func (m *maker) operated(e api.Expr, r []int) span {
	switch e.Kind {
	case api.EInt, api.EBool:
		return m.made(integer, api.Op{Kind: api.OConst, K: e.Num, At: e.At})
	case api.ENil:
		return m.made(integer, api.Op{Kind: api.OConst, At: e.At})
	case api.EIndex:
		return m.made(integer, api.Op{Kind: api.OIndex, B: r[0], C: r[1], D: r[2], At: e.At})
	case api.ESlice:
		return m.made(slice, api.Op{Kind: api.OCut, C: r[0], D: r[1], E: r[2], F: r[3], At: e.At})
	case api.ELen:
		return span{r[1], integer}
	case api.EUnary:
		return m.made(integer, api.Op{Kind: api.OUnary, B: r[0], K: word.Sign(e.Name, len(e.Args)), At: e.At})
	case api.EBinary:
		return m.made(integer, api.Op{Kind: api.OBinary, B: r[0], C: r[1], K: word.Sign(e.Name, len(e.Args)), At: e.At})
	case api.ENew:
		return m.made("*"+e.Name, api.Op{Kind: api.ONew, B: m.number(m.table.Structs, e.Name), At: e.At})
	case api.EMake:
		return m.made(slice, api.Op{Kind: api.OMake, C: r[0], At: e.At})
	case api.ERelease:
		return m.made(integer, api.Op{Kind: api.ORelease, B: m.hatch(e.Name), At: e.At})
	}
	return span{}
}

// made: fresh registers for a value of a type, which an operation makes.
func (m *maker) made(typ string, o api.Op) span {
	to := m.fresh(typ)
	o.A = to.first
	if typ == slice {
		o.B = to.first + 1
	}
	m.add(o)
	return to
}
