package scope_test

import (
	"cmp"
	"slices"
	"strings"

	"portcullis/api"
	"portcullis/lex"
)

// model is the chapter's words, of a text's tokens instead of its tree.
type model struct {
	tokens []api.Token
	decls  []part
	diags  map[api.Diag]bool
	table  api.Table
}

// part is a declaration: its first token is from, to is the one behind its last.
type part struct {
	word, name   string
	at, from, to int
}

// local is a name that means something from a token on.
type local struct {
	api.Pair
	from int
}

// modelled: what the chapter says of a text that layer 4 reads; without its places, if at is false.
func modelled(s string, at bool) (api.Table, []api.Diag) {
	tokens, _, _ := lex.Tokens(s)
	m := &model{tokens: tokens, diags: map[api.Diag]bool{}}
	for from := 0; from < len(tokens); {
		to := m.end(from)
		m.decls = append(m.decls, part{tokens[from].Text, tokens[from+1].Text, tokens[from+1].At, from, to})
		from = to
	}
	for i, d := range m.decls {
		m.decl(i, d)
	}
	diags := map[api.Diag]bool{}
	for d := range m.diags {
		if !at {
			d.At = 0
		}
		diags[d] = true
	}
	var list []api.Diag
	for d := range diags {
		list = append(list, d)
	}
	slices.SortFunc(list, func(a, b api.Diag) int {
		if a.At != b.At {
			return cmp.Compare(a.At, b.At)
		}
		if a.Code != b.Code {
			return cmp.Compare(a.Code, b.Code)
		}
		return cmp.Compare(a.Name, b.Name)
	})
	return m.table, list
}

// text: a token's, "" beyond the ends.
func (m *model) text(k int) string {
	if k < 0 || k >= len(m.tokens) {
		return ""
	}
	return m.tokens[k].Text
}

// end: the first token behind the declaration that begins at one.
func (m *model) end(k int) int {
	for deep := 0; ; k++ {
		switch m.text(k) {
		case "{":
			deep++
		case "}":
			deep--
		}
		if deep == 0 && (m.text(k) == ";" || m.text(k) == "}") {
			return k + 1
		}
	}
}

func (m *model) tell(at int, code api.Errno, name string) {
	m.diags[api.Diag{At: at, Code: code, Name: name}] = true
}

// word: that of the first declaration with a name, "" if there is none.
func (m *model) word(name string) string {
	for _, d := range m.decls {
		if d.name == name {
			return d.word
		}
	}
	return ""
}

func (m *model) use(at int, name, words string) {
	if word := m.word(name); word == "" {
		m.tell(at, 41, name)
	} else if !slices.Contains(strings.Fields(words), word) {
		m.tell(at, 42, name)
	}
}

var most = map[string]int{"thread": 4, "lock": 8, "chan": 4, "var": 16, "input": 8, "sink": 4, "func": 8, "struct": 4}

func (m *model) decl(i int, d part) {
	ahead := 0
	for _, other := range m.decls[:i] {
		if other.name == d.name {
			m.tell(d.at, 40, d.name)
		}
		if other.word == d.word {
			ahead++
		}
	}
	if ahead >= most[d.word] {
		m.tell(d.at, 22, d.name)
	}
	list := map[string]*[]int{"thread": &m.table.Threads, "lock": &m.table.Locks, "chan": &m.table.Chans, "var": &m.table.Globals, "input": &m.table.Inputs, "sink": &m.table.Sinks, "func": &m.table.Funcs, "struct": &m.table.Structs}[d.word]
	*list = append(*list, i)
	switch d.word {
	case "var", "struct":
		m.types(d.at, d.from+2, d.to)
		fields := m.pairs(d.from+3, d.to)
		for i, f := range fields {
			if d.word == "struct" && among(fields[:i], f.Name) {
				m.tell(d.at, 40, f.Name)
			}
		}
	case "func", "thread":
		m.body(d)
	}
}

// types: what the pointers' types between two tokens are to.
func (m *model) types(at, from, to int) {
	for k := from; k < to; k++ {
		if m.text(k) == "*" {
			m.use(at, m.text(k+1), "struct")
		}
	}
}

// typed: the type that begins at a token.
func (m *model) typed(k int) string {
	switch m.text(k) {
	case "[":
		return "[]int"
	case "*":
		return "*" + m.text(k+1)
	}
	return m.text(k)
}

// pairs: names with types between two tokens: the names are those that stand behind no "*".
func (m *model) pairs(from, to int) []local {
	var list []local
	for k := from; k < to; k++ {
		if m.tokens[k].Kind == api.TName && m.text(k-1) != "*" {
			list = append(list, local{api.Pair{Name: m.text(k), Type: m.typed(k + 1)}, from})
		}
	}
	return list
}

func among(list []local, name string) bool {
	return slices.ContainsFunc(list, func(l local) bool { return l.Name == name })
}

func (m *model) body(d part) {
	open := d.from
	for m.text(open) != "{" {
		open++
	}
	m.types(d.at, d.from, open)
	var locals []local
	if d.word == "func" {
		behind := d.from
		for m.text(behind) != ")" {
			behind++
		}
		for _, q := range m.pairs(d.from+2, behind) {
			if among(locals, q.Name) || m.word(q.Name) != "" {
				m.tell(d.at, 40, q.Name)
			}
			locals = append(locals, q)
		}
	}
	for k := open; k < d.to; k++ {
		if m.tokens[k].Kind == api.TName {
			locals = m.name(k, locals)
		}
	}
	var list []api.Pair
	for i, l := range locals {
		if !among(locals[:i], l.Name) {
			list = append(list, l.Pair)
		}
	}
	m.table.Locals = append(m.table.Locals, list)
}

// name reads a name in a block; it answers the locals with the one that it makes.
func (m *model) name(k int, locals []local) []local {
	name, at := m.text(k), func(back int) int { return m.tokens[k-back].At }
	isLocal := slices.ContainsFunc(locals, func(l local) bool { return l.Name == name && l.from <= k })
	statement := map[string]string{"lock": "lock", "unlock": "lock", "send": "chan", "recv": "chan", "out": "sink"}
	switch {
	case m.text(k-1) == "." || m.text(k-1) == "release":
	case m.text(k-1) == "var":
		if among(locals, name) || m.word(name) != "" {
			m.tell(at(1), 40, name)
		}
		distinct := map[string]bool{}
		for _, l := range locals {
			distinct[l.Name] = true
		}
		if len(distinct) >= 32 {
			m.tell(at(1), 22, name)
		}
		return append(locals, local{api.Pair{Name: name, Type: m.typed(k + 1)}, k + slices.IndexFunc(m.tokens[k:], func(t api.Token) bool { return t.Text == ";" })})
	case m.text(k-1) == "*" && m.text(k-3) == "var":
		m.use(at(3), name, "struct")
	case m.text(k-1) == "new":
		m.use(at(1), name, "struct")
	case statement[m.text(k-1)] != "":
		m.use(at(1), name, statement[m.text(k-1)])
	case m.text(k-2) == "recv":
		if !isLocal {
			m.use(at(2), name, "")
		}
	case m.text(k-1) == "call" && m.text(k+1) == "=":
		if !isLocal {
			m.use(at(1), name, "")
		}
	case m.text(k-1) == "call":
		m.use(at(1), name, "func")
	case m.text(k-3) == "call" && m.text(k-1) == "=":
		m.use(at(3), name, "func")
	case !isLocal:
		m.use(at(0), name, "var input")
	}
	return locals
}
