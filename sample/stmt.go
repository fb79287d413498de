package sample

import (
	"slices"
	"strconv"

	"portcullis/api"
)

// deepest: so many blocks stand within each other at most.
const deepest = 5

func (m *maker) block(deep, most int) {
	m.put("{")
	for range m.below(most + 1) {
		if m.spare > 0 {
			m.stmt(deep)
		}
	}
	m.put("}")
}

// begin: the word of a statement that may stand here.
func (m *maker) begin(deep int) string {
	word := m.one("var var var set set set if while lock unlock send recv out out call call return")
	switch {
	case word == "var" && len(m.locals) >= api.MaxLocals:
		return "set"
	case deep >= deepest && (word == "if" || word == "while"):
		return "out"
	case word == "recv" && m.local("int") == "" && (len(m.locals) == 0 || !m.slip()):
		return "send"
	}
	return word
}

func (m *maker) stmt(deep int) {
	word := m.begin(deep)
	m.put(word)
	switch word {
	case "var":
		m.variable()
	case "set":
		m.set()
	case "if", "while":
		m.branch(word, deep)
		return
	case "lock", "unlock":
		m.put(m.nameOf("lock"))
	case "send":
		m.put(m.nameOf("chan"))
		m.expr("int", 0)
	case "recv":
		m.put(m.nameOf("chan") + " " + m.localOr("int"))
	case "out":
		m.put(m.nameOf("sink"))
		m.expr("int", 0)
	case "call":
		m.call()
	case "return":
		m.back()
	}
	m.put(";")
}

func (m *maker) variable() {
	q := api.Pair{Name: "v" + strconv.Itoa(m.last), Type: m.someType()}
	m.last++
	m.putPair(q)
	m.put("=")
	m.expr(q.Type, 0)
	m.locals = append(m.locals, q)
}

func (m *maker) branch(word string, deep int) {
	m.expr("bool", 0)
	m.block(deep+1, 3)
	if word == "if" && m.below(2) == 0 {
		m.put("else {")
		m.stmt(deep + 1)
		m.put("}")
	}
}

// set writes a place and a value that goes into it.
func (m *maker) set() {
	typ := m.place()
	if m.slip() {
		typ = m.someType()
	}
	m.put("=")
	m.expr(typ, 0)
}

// place writes what may be set, and tells its type.
func (m *maker) place() string {
	names := slices.Concat(m.locals, m.globals())
	switch form := m.below(4); {
	case m.slip():
		m.put(m.nameOf("input"))
	case form == 0:
		return m.fieldOf(m.fields(""), 0)
	case form < 3 && len(names) > 0:
		q := names[m.below(len(names))]
		m.put(q.Name)
		return q.Type
	default:
		m.form("WORDS [ INT ]", 0)
	}
	return "int"
}

// call writes a function's name and arguments, with a local ahead where its result goes into one.
func (m *maker) call() {
	list := m.named("func")
	f := list[m.below(len(list))]
	if to := m.local(f.typ); to != "" && m.below(3) > 0 {
		m.put(to + " =")
	} else if m.slip() && len(m.locals) > 0 {
		m.put(m.localOr(f.typ) + " =")
	}
	params := slices.Clone(f.pairs)
	if m.slip() {
		params = append(params, api.Pair{Type: m.someType()})
		params = params[:m.below(len(params)+1)]
	}
	m.put(f.name + " (")
	m.each(len(params), func(i int) { m.expr(params[i].Type, 0) })
	m.put(")")
}

func (m *maker) back() {
	typ := m.result
	if m.slip() {
		typ = m.someType()
		if m.below(2) == 0 {
			return
		}
	}
	if typ != "" {
		m.expr(typ, 0)
	}
}

// local: the name of a local of a type; "" if there is none.
func (m *maker) local(typ string) string {
	return m.oneOf(m.locals, typ)
}

// localOr: the name of a local of a type, or of any other.
func (m *maker) localOr(typ string) string {
	if name := m.local(typ); name != "" && !m.slip() {
		return name
	}
	return m.locals[m.below(len(m.locals))].Name
}

// globals: their names with their types.
func (m *maker) globals() []api.Pair {
	var list []api.Pair
	for _, d := range m.named("var") {
		list = append(list, api.Pair{Name: d.name, Type: d.typ})
	}
	return list
}

// oneOf: the name of one of a list's of a type; "" if there is none.
func (m *maker) oneOf(list []api.Pair, typ string) string {
	var names []string
	for _, q := range list {
		if q.Type == typ {
			names = append(names, q.Name)
		}
	}
	if len(names) == 0 {
		return ""
	}
	return names[m.below(len(names))]
}
