package parse_test

import (
	"math/rand/v2"
	"strconv"
	"strings"

	"portcullis/api"
)

// maker makes a text and, beside it, the tree that it has, by a row of picks.
type maker struct {
	*rand.Rand
	text []byte
}

func newMaker(seed uint64) *maker { return &maker{Rand: rand.New(rand.NewPCG(seed, 4))} }

func (m *maker) pick(texts string) string {
	list := strings.Fields(texts)
	return list[m.IntN(len(list))]
}

// put writes tokens, with blanks between them where there must be, and here and there where there may be. It answers the place of the last one.
func (m *maker) put(tokens ...string) int {
	at := 0
	for _, token := range tokens {
		if len(m.text) > 0 && joins(m.text[len(m.text)-1], token[0]) {
			m.text = append(m.text, " \n"[m.IntN(2)])
		}
		for m.IntN(4) == 0 {
			m.text = append(m.text, " \n"[m.IntN(2)])
		}
		at = len(m.text)
		m.text = append(m.text, token...)
	}
	return at
}

// joins: would tokens that end and begin so be read as one?
func joins(a, b byte) bool {
	inName := func(c byte) bool { return c == '_' || 'a' <= c && c <= 'z' || '0' <= c && c <= '9' }
	return inName(a) && inName(b) || b == '=' && strings.IndexByte("<=!", a) >= 0
}

func (m *maker) name() string {
	return m.pick("a b9 c_ d e f lens iff x_1_ new_ abcdefghijklmnop")
}

func (m *maker) named() (string, int) {
	name := m.name()
	return name, m.put(name)
}

func (m *maker) program(most int) api.Program {
	var p api.Program
	for range m.IntN(most + 1) {
		p.Decls = append(p.Decls, m.decl())
	}
	return p
}

func (m *maker) decl() api.Decl {
	d := api.Decl{Kind: 1 + m.IntN(api.DThread)}
	m.put(map[int]string{api.DLock: "lock", api.DChan: "chan", api.DStruct: "struct", api.DVar: "var", api.DInput: "input", api.DSink: "sink", api.DFunc: "func", api.DThread: "thread"}[d.Kind])
	d.Name, d.At = m.named()
	switch d.Kind {
	case api.DChan:
		d.Num = 1 + m.IntN(4)
		m.put(strconv.Itoa(d.Num))
	case api.DStruct:
		m.put("{")
		for range m.IntN(4) {
			d.Pairs = append(d.Pairs, m.pair())
			m.put(";")
		}
		m.put("}")
	case api.DVar:
		d.Type = m.types()
	case api.DFunc:
		m.put("(")
		for i := range m.IntN(3) {
			if i > 0 {
				m.put(",")
			}
			d.Pairs = append(d.Pairs, m.pair())
		}
		m.put(")")
		if m.IntN(2) == 0 {
			d.Type = m.types()
		}
		d.Body = m.block(1, 0)
	case api.DThread:
		d.Body = m.block(1, 0)
	}
	if d.Kind != api.DStruct && d.Kind != api.DFunc && d.Kind != api.DThread {
		m.put(";")
	}
	return d
}

func (m *maker) pair() api.Pair {
	name, _ := m.named()
	return api.Pair{Name: name, Type: m.types()}
}

func (m *maker) types() string {
	switch m.IntN(4) {
	case 0:
		m.put("int")
		return "int"
	case 1:
		m.put("bool")
		return "bool"
	case 2:
		m.put("[", "]", "int")
		return "[]int"
	}
	m.put("*")
	name, _ := m.named()
	return "*" + name
}

func (m *maker) block(deep, least int) []api.Stmt {
	var list []api.Stmt
	m.put("{")
	for range least + m.IntN(4) {
		list = append(list, m.stmt(deep))
	}
	m.put("}")
	return list
}

func (m *maker) stmt(deep int) api.Stmt {
	s := api.Stmt{Kind: 1 + m.IntN(api.SReturn)}
	for deep > 3 && (s.Kind == api.SIf || s.Kind == api.SWhile) {
		s.Kind = 1 + m.IntN(api.SReturn)
	}
	s.At = m.put(map[int]string{api.SVar: "var", api.SSet: "set", api.SIf: "if", api.SWhile: "while", api.SLock: "lock", api.SUnlock: "unlock", api.SSend: "send", api.SRecv: "recv", api.SOut: "out", api.SCall: "call", api.SReturn: "return"}[s.Kind])
	value := func() { s.Exprs = append(s.Exprs, m.expr(deep+1)) }
	switch s.Kind {
	case api.SVar:
		s.Name, _ = m.named()
		s.Type = m.types()
		m.put("=")
		value()
	case api.SSet:
		s.Exprs = append(s.Exprs, m.place(deep+1))
		m.put("=")
		value()
	case api.SIf:
		value()
		s.Body = m.block(deep+1, 0)
		if m.IntN(2) == 0 {
			m.put("else")
			s.Else = m.block(deep+1, 1)
		}
		return s
	case api.SWhile:
		value()
		s.Body = m.block(deep+1, 0)
		return s
	case api.SLock, api.SUnlock:
		s.Name, _ = m.named()
	case api.SSend, api.SOut:
		s.Name, _ = m.named()
		value()
	case api.SRecv:
		s.Name, _ = m.named()
		s.Type, _ = m.named()
	case api.SCall:
		if m.IntN(2) == 0 {
			s.Type, _ = m.named()
			m.put("=")
		}
		s.Name, _ = m.named()
		m.put("(")
		for i := range m.IntN(4) {
			if i > 0 {
				m.put(",")
			}
			value()
		}
		m.put(")")
	case api.SReturn:
		if m.IntN(2) == 0 {
			value()
		}
	}
	m.put(";")
	return s
}

// place: what can be set.
func (m *maker) place(deep int) api.Expr {
	e := m.expr(deep)
	for e.Kind != api.EName && e.Kind != api.EField && e.Kind != api.EIndex {
		e = m.link(e, deep)
	}
	return e
}

func (m *maker) expr(deep int) api.Expr {
	e := m.first(deep)
	for m.IntN(3) == 0 && chained(e) < 4 {
		e = m.link(e, deep)
	}
	return e
}

// chained: how many fields, indexes and cuts an expression has one behind the other.
func chained(e api.Expr) int {
	if e.Kind != api.EField && e.Kind != api.EIndex && e.Kind != api.ESlice {
		return 0
	}
	return 1 + chained(e.Args[0])
}

func (m *maker) link(object api.Expr, deep int) api.Expr {
	e := api.Expr{Args: []api.Expr{object}}
	if deep > 6 || m.IntN(3) == 0 {
		e.Kind, e.At = api.EField, m.put(".")
		e.Name, _ = m.named()
		return e
	}
	e.Kind, e.At = api.EIndex, m.put("[")
	e.Args = append(e.Args, m.expr(deep+1))
	if m.IntN(2) == 0 {
		m.put(":")
		e.Kind, e.Args = api.ESlice, append(e.Args, m.expr(deep+1))
	}
	m.put("]")
	return e
}

func (m *maker) first(deep int) api.Expr {
	kinds := []int{api.EInt, api.EBool, api.ENil, api.EName, api.EName, api.ENew, api.ERelease, api.ELen, api.EMake, api.EUnary, api.EBinary, api.EBinary}
	if deep > 6 {
		kinds = kinds[:7]
	}
	e := api.Expr{Kind: kinds[m.IntN(len(kinds))]}
	switch e.Kind {
	case api.EInt:
		digits := m.pick("0 1 2 3 4")
		e.Num, _ = strconv.Atoi(digits)
		e.At = m.put(digits)
	case api.EBool:
		e.Num = m.IntN(2)
		e.At = m.put([]string{"false", "true"}[e.Num])
	case api.ENil:
		e.At = m.put("nil")
	case api.EName:
		e.Name, e.At = m.named()
	case api.ENew, api.ERelease:
		e.At = m.put(map[int]string{api.ENew: "new", api.ERelease: "release"}[e.Kind])
		e.Name, _ = m.named()
	case api.ELen, api.EMake:
		e.At = m.put(map[int]string{api.ELen: "len", api.EMake: "make"}[e.Kind])
		m.put("(")
		e.Args = append(e.Args, m.expr(deep+1))
		m.put(")")
	case api.EUnary:
		e.At, e.Name = m.put("("), m.pick("- !")
		m.put(e.Name)
		e.Args = append(e.Args, m.expr(deep+1))
		m.put(")")
	case api.EBinary:
		e.At, e.Name = m.put("("), m.pick("+ - * / % & | < <= == !=")
		e.Args = append(e.Args, m.expr(deep+1))
		m.put(e.Name)
		e.Args = append(e.Args, m.expr(deep+1))
		m.put(")")
	}
	return e
}
