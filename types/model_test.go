package types_test

import (
	"cmp"
	"slices"
	"strings"

	"portcullis/api"
	"portcullis/sample"
)

// model is the chapter's words, of a text's tokens instead of its tree; the types of expressions are told while they are read.
type model struct {
	sample.Reader
	structs map[string][]api.Pair
	globals map[string]string // also the inputs
	inputs  map[string]bool
	params  map[string][]string
	results map[string]string
	locals  map[string]string
	result  string
	diags   map[api.Diag]bool
	roots   []root
}

// root is an expression of a statement: its type, and what is wrong in it.
type root struct {
	typ   string
	diags []api.Diag
}

// modelled: what is wrong in a text whose names are right, and its statements' expressions.
func modelled(s string) ([]api.Diag, []root) {
	m := &model{Reader: sample.Read(s), structs: map[string][]api.Pair{}, globals: map[string]string{}, inputs: map[string]bool{}, params: map[string][]string{}, results: map[string]string{}}
	for m.K < len(m.Tokens) {
		m.declare()
	}
	all := map[api.Diag]bool{}
	m.K, m.diags = 0, all
	for m.K < len(m.Tokens) {
		m.decl()
	}
	return sorted(all), m.roots
}

func sorted(set map[api.Diag]bool) []api.Diag {
	var list []api.Diag
	for d := range set {
		list = append(list, d)
	}
	slices.SortFunc(list, func(a, b api.Diag) int {
		if a.At == b.At && a.Code == b.Code {
			return strings.Compare(a.Name, b.Name)
		}
		if a.At == b.At {
			return cmp.Compare(a.Code, b.Code)
		}
		return cmp.Compare(a.At, b.At)
	})
	return list
}

// declare reads what a declaration says to others.
func (m *model) declare() {
	word, name := m.Next(), m.Next()
	switch word {
	case "struct":
		m.K++
		m.structs[name] = m.Pairs("}")
		return
	case "var":
		m.globals[name] = m.Type()
	case "input":
		m.globals[name] = "int"
		m.inputs[name] = true
	case "func":
		m.K++
		m.params[name] = nil
		for _, q := range m.Pairs(")") {
			m.params[name] = append(m.params[name], q.Type)
		}
		if m.Text() != "{" {
			m.results[name] = m.Type()
		}
	}
	m.over()
}

// over goes to the end of a declaration.
func (m *model) over() {
	for deep := 0; ; {
		switch m.Next() {
		case "{":
			deep++
		case "}":
			if deep--; deep == 0 {
				return
			}
		case ";":
			if deep == 0 {
				return
			}
		}
	}
}

func (m *model) decl() {
	word, name := m.Next(), m.Next()
	if word != "func" && word != "thread" {
		m.over()
		return
	}
	m.locals, m.result = map[string]string{}, m.results[name]
	if m.Is("(") {
		for _, q := range m.Pairs(")") {
			m.locals[q.Name] = q.Type
		}
		if m.Text() != "{" {
			m.Type()
		}
	}
	m.block()
}

func (m *model) block() {
	m.Next()
	for !m.Is("}") {
		m.stmt()
	}
}

// root reads an expression of a statement; false, if it is wrong.
func (m *model) root() (string, bool) {
	all := m.diags
	m.diags = map[api.Diag]bool{}
	typ := m.expr()
	m.roots = append(m.roots, root{typ, sorted(m.diags)})
	for d := range m.diags {
		all[d] = true
	}
	m.diags = all
	return typ, typ != ""
}

// into: does a value of a type go into a place of a type?
func into(value, place string) bool {
	return place != "" && (value == place || place[0] == '*' && value == "nil")
}

func (m *model) stmt() {
	at, code := m.At(), api.Errno(50)
	told, good := true, true // are the expressions not wrong? does all fit?
	value := func(place string) {
		typ, right := m.root()
		told, good = told && right, good && into(typ, place)
	}
	switch word := m.Next(); word {
	case "var":
		name := m.Next()
		place := m.Type()
		m.Next()
		value(place)
		m.locals[name] = place
	case "set":
		alone, name := m.Tokens[m.K+1].Text == "=", m.Text()
		place, right := m.root()
		m.Next()
		value(place)
		told, good = told && right, good && !(alone && m.inputs[name])
	case "if", "while":
		value("bool")
		m.wrong(at, code, told && !good)
		m.block()
		if word == "if" && m.Is("else") {
			m.block()
		}
		return
	case "send", "out":
		m.Next()
		value("int")
	case "recv":
		m.Next()
		good = m.locals[m.Next()] == "int"
	case "lock", "unlock":
		m.Next()
	case "call":
		told, good = m.call()
	case "return":
		code = 51
		if m.Text() != ";" {
			value(m.result)
		} else {
			good = m.result == ""
		}
	}
	m.Next()
	m.wrong(at, code, told && !good)
}

func (m *model) wrong(at int, code api.Errno, holds bool) {
	if holds {
		m.diags[api.Diag{At: at, Code: code}] = true
	}
}

func (m *model) call() (told, good bool) {
	name, told, good := m.Next(), true, true
	if m.Is("=") {
		local := m.locals[name]
		name = m.Next()
		good = into(m.results[name], local)
	}
	m.Next()
	count := 0
	for !m.Is(")") {
		m.Is(",")
		typ, right := m.root()
		told = told && right
		if count++; count > len(m.params[name]) || !into(typ, m.params[name][count-1]) {
			good = false
		}
	}
	return told, good && count == len(m.params[name])
}

// expr reads an expression: its type, or "".
func (m *model) expr() string {
	typ := m.first()
	for m.Text() == "." || m.Text() == "[" {
		at := m.At()
		if m.Next() == "." {
			typ = m.field(at, typ, m.Next())
			continue
		}
		gives, index := "int", m.expr()
		all := []string{typ, index}
		if m.Is(":") {
			gives, all = "[]int", append(all, m.expr())
		}
		m.Next()
		typ = m.gives(at, gives, all, "[]int int int")
	}
	return typ
}

func (m *model) field(at int, typ, name string) string {
	if typ == "" {
		return ""
	}
	fields, known := m.structs[strings.TrimPrefix(typ, "*")]
	for _, q := range fields {
		if typ[0] == '*' && q.Name == name {
			return q.Type
		}
	}
	if typ[0] == '*' && known {
		m.diags[api.Diag{At: at, Code: 41, Name: name}] = true
	} else {
		m.wrong(at, 50, true)
	}
	return ""
}

// gives: a type, if some types are as wanted; "", if not, and that is told where none of them is wrong.
func (m *model) gives(at int, typ string, types []string, wanted string) string {
	if slices.Contains(types, "") {
		return ""
	}
	for i, want := range strings.Fields(wanted)[:len(types)] {
		if types[i] != want {
			m.wrong(at, 50, true)
			return ""
		}
	}
	return typ
}

func (m *model) first() string {
	at, kind := m.At(), m.Tokens[m.K].Kind
	word := m.Next()
	switch {
	case kind == api.TNumber:
		return "int"
	case word == "true" || word == "false":
		return "bool"
	case word == "nil":
		return "nil"
	case word == "new":
		return "*" + m.Next()
	case word == "release":
		m.Next()
		return "int"
	case word == "len" || word == "make":
		m.Next()
		typ := m.expr()
		m.Next()
		if word == "len" {
			return m.gives(at, "int", []string{typ}, "[]int")
		}
		return m.gives(at, "[]int", []string{typ}, "int")
	case word == "(":
		return m.within(at)
	case m.locals[word] != "":
		return m.locals[word]
	}
	return m.globals[word]
}

// within reads what stands behind a "(".
func (m *model) within(at int) string {
	defer m.Next()
	switch {
	case m.Is("-"):
		return m.gives(at, "int", []string{m.expr()}, "int")
	case m.Is("!"):
		return m.gives(at, "bool", []string{m.expr()}, "bool")
	}
	first, sign, second := m.expr(), m.Next(), m.expr()
	both := []string{first, second}
	switch sign {
	case "+", "-", "*", "/", "%":
		return m.gives(at, "int", both, "int int")
	case "<", "<=":
		return m.gives(at, "bool", both, "int int")
	case "&", "|":
		return m.gives(at, "bool", both, "bool bool")
	}
	switch {
	case first == "" || second == "":
		return ""
	case first == second && first != "[]int", first == "nil" && second[0] == '*', second == "nil" && first[0] == '*':
		return "bool"
	}
	m.wrong(at, 50, true)
	return ""
}
