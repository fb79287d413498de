package lower

import (
	"slices"

	"portcullis/api"
)

// maker is the code of a function or a thread while it is made.
type maker struct {
	*names
	locals spans // their registers
	regs   int
	code   []api.Op
}

// add: an operation more. The one behind it is the next one that is added, as long as nobody turns it elsewhere.
func (m *maker) add(o api.Op) {
	if o.Kind != api.OReturn {
		o.Next = len(m.code) + 1
	}
	m.code = append(m.code, o)
}

// each adds an operation for each of so many words.
func (m *maker) each(count int, one func(k int) api.Op) {
	for k := range count {
		m.add(one(k))
	}
}

// turn: what leaves the operations from one number on up to another goes elsewhere.
func (m *maker) turn(from, to, elsewhere int) {
	part := m.code[from:to]
	for i := range part {
		if part[i].Next == to {
			part[i].Next = elsewhere
		}
		if part[i].Else == to {
			part[i].Else = elsewhere
		}
	}
}

// fresh: registers that nobody has had yet, for a value of a type.
func (m *maker) fresh(typ string) span {
	first := m.regs
	m.regs += words(typ)
	return span{first, typ}
}

// end: what is done behind the last statement.
func (m *maker) end(d api.Decl) {
	result := m.fresh(d.Type)
	m.each(words(d.Type), func(k int) api.Op {
		return api.Op{Kind: api.OConst, A: result.first + k, At: d.At}
	})
	m.add(api.Op{Kind: api.OReturn, Args: result.numbers(), At: d.At})
}

func (m *maker) stmts(list []api.Stmt) {
	for _, s := range list {
		m.stmt(s)
	}
}

func (m *maker) stmt(s api.Stmt) {
	switch s.Kind {
	case api.SVar:
		m.move(s.At, m.expr(s.Exprs[0]), m.locals[s.Name])
	case api.SSet:
		m.set(s, s.Exprs[0], s.Exprs[1])
	case api.SIf:
		m.choice(s)
	case api.SWhile:
		m.loop(s)
	case api.SLock:
		m.add(api.Op{Kind: api.OLock, A: m.number(m.table.Locks, s.Name), At: s.At})
	case api.SUnlock:
		m.add(api.Op{Kind: api.OUnlock, A: m.number(m.table.Locks, s.Name), At: s.At})
	case api.SSend:
		value := m.expr(s.Exprs[0])
		m.add(api.Op{Kind: api.OSend, A: m.number(m.table.Chans, s.Name), B: value.first, At: s.At})
	case api.SRecv:
		m.add(api.Op{Kind: api.ORecv, A: m.locals[s.Type].first, B: m.number(m.table.Chans, s.Name), At: s.At})
	case api.SOut:
		value := m.expr(s.Exprs[0])
		m.add(api.Op{Kind: api.OOut, A: m.number(m.table.Sinks, s.Name), B: value.first, At: s.At})
	case api.SCall:
		m.call(s)
	case api.SReturn:
		m.add(api.Op{Kind: api.OReturn, Args: m.exprs(s.Exprs), At: s.At})
	}
}

// move: a value goes to the registers of a local.
func (m *maker) move(at int, value, local span) {
	m.each(words(local.typ), func(k int) api.Op {
		return api.Op{Kind: api.OMove, A: local.first + k, B: value.first + k, At: at}
	})
}

func (m *maker) set(s api.Stmt, place, value api.Expr) {
	switch place.Kind {
	case api.EName:
		m.setName(s.At, place.Name, m.expr(value))
	case api.EField:
		object, from := m.expr(place.Args[0]), m.expr(value)
		to := m.fields[field{object.typ, place.Name}]
		m.each(words(to.typ), func(k int) api.Op {
			return api.Op{Kind: api.OPut, A: object.first, B: to.first + k, C: from.first + k, K: k, At: s.At}
		})
	case api.EIndex:
		r := m.exprs(slices.Concat(place.Args, []api.Expr{value}))
		m.add(api.Op{Kind: api.OElem, A: r[0], B: r[1], C: r[2], D: r[3], At: s.At})
	}
}

// setName: a value goes to the local or the global of a name.
func (m *maker) setName(at int, name string, value span) {
	if local, there := m.locals[name]; there {
		m.move(at, value, local)
		return
	}
	global := m.globals[name]
	m.each(words(global.typ), func(k int) api.Op {
		return api.Op{Kind: api.OStore, A: global.first + k, B: value.first + k, K: k, At: at}
	})
}

// fork adds the condition of a statement, and tells the number of the OIf.
func (m *maker) fork(s api.Stmt) int {
	condition := m.expr(s.Exprs[0])
	m.add(api.Op{Kind: api.OIf, A: condition.first, At: s.At})
	return len(m.code) - 1
}

func (m *maker) choice(s api.Stmt) {
	fork := m.fork(s)
	m.stmts(s.Body)
	other := len(m.code)
	m.stmts(s.Else)
	m.turn(fork, other, len(m.code))
	m.code[fork].Else = other
}

func (m *maker) loop(s api.Stmt) {
	start := len(m.code)
	fork := m.fork(s)
	m.stmts(s.Body)
	m.turn(fork, len(m.code), start)
	m.code[fork].Else = len(m.code)
}

func (m *maker) call(s api.Stmt) {
	o := api.Op{Kind: api.OCall, A: m.number(m.table.Funcs, s.Name), B: -1, Args: m.exprs(s.Exprs), At: s.At}
	if s.Type != "" {
		// The result is of the local's type: it has as many words.
		local := m.locals[s.Type]
		o.B, o.K = local.first, words(local.typ)
	}
	m.add(o)
}
