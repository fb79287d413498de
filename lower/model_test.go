package lower_test

import (
	"slices"
	"strconv"
	"strings"

	"portcullis/api"
	"portcullis/sample"
)

// model is the chapter's words, of a text's tokens instead of its tree: operations are told while the text is read, once, and what leaves them is closed when it is known where it goes.
type model struct {
	sample.Reader
	hatches []string
	things  map[string]thing
	module  api.Module

	locals map[string]value
	regs   int
	code   []api.Op
	open   []way
}

// thing is what a declaration says to others: its number among those of its word, a global's first word, its type, a struct's fields.
type thing struct {
	word          string
	number, first int
	typ           string
	fields        []api.Pair
}

// value is registers, with their type.
type value struct {
	regs []int
	typ  string
}

// way is what leaves an operation: by its Next, or by its Else.
type way struct {
	op    int
	other bool
}

// modelled: the code of a text in which all fits and all hatches are there, whatever its size.
func modelled(s string, hatches []string) api.Module {
	m := &model{Reader: sample.Read(s), hatches: hatches, things: map[string]thing{}}
	for m.K < len(m.Tokens) {
		m.declare()
	}
	m.module.Hatches = slices.Clone(hatches)
	for _, word := range []string{"func", "thread"} {
		for m.K = 0; m.K < len(m.Tokens); {
			m.body(word)
		}
	}
	return m.module
}

// size: a type's words.
func size(typ string) int {
	if typ == "[]int" {
		return 2
	}
	return 1
}

// over reads a block, and tells its locals.
func (m *model) over() []api.Pair {
	var list []api.Pair
	for depth := 0; ; {
		switch m.Next() {
		case "{":
			depth++
		case "}":
			depth--
			if depth == 0 {
				return list
			}
		case "var":
			name := m.Next()
			list = append(list, api.Pair{Name: name, Type: m.Type()})
		}
	}
}

// declare reads what a declaration says to others.
func (m *model) declare() {
	word, name := m.Next(), m.Next()
	t := thing{word: word}
	for _, other := range m.things {
		if other.word == word {
			t.number++
		}
	}
	all := &m.module
	switch word {
	case "struct":
		m.K++
		sum := 0
		for _, q := range m.Pairs("}") {
			t.fields = append(t.fields, q)
			sum += size(q.Type)
		}
		all.Structs = append(all.Structs, api.Sized{Name: name, Size: sum})
	case "chan":
		places, _ := strconv.Atoi(m.Next())
		all.Chans = append(all.Chans, api.Sized{Name: name, Size: places})
	case "var":
		t.typ = m.Type()
		for _, g := range all.Globals {
			t.first += g.Size
		}
		all.Globals = append(all.Globals, api.Sized{Name: name, Size: size(t.typ)})
	case "lock":
		all.Locks = append(all.Locks, name)
	case "input":
		all.Inputs = append(all.Inputs, name)
	case "sink":
		all.Sinks = append(all.Sinks, name)
	case "func":
		m.K++
		m.Pairs(")")
		if m.Text() != "{" {
			t.typ = m.Type()
		}
		m.over()
	case "thread":
		m.over()
	}
	m.Is(";")
	m.things[name] = t
}

// body reads a declaration; of a function or a thread behind this word it tells the code.
func (m *model) body(word string) {
	found, at, name := m.Next(), m.At(), m.Next()
	var list []api.Pair
	switch {
	case found == "func":
		m.K++
		list = m.Pairs(")")
		if m.Text() != "{" {
			m.Type()
		}
	case found == "struct":
		m.K++
		m.Pairs("}")
		return
	case found != "thread":
		for !m.Is(";") {
			m.K++
		}
		return
	}
	if found != word {
		m.over()
		return
	}
	f := api.Func{Name: name}
	for _, q := range list {
		f.Params += size(q.Type)
	}
	begin := m.K
	list = append(list, m.over()...)
	m.K, m.regs, m.code, m.open, m.locals = begin, 0, nil, nil, map[string]value{}
	for _, q := range list {
		m.locals[q.Name] = m.fresh(q.Type)
	}
	m.block()
	var result []int
	if typ := m.things[name].typ; typ != "" {
		result = m.fresh(typ).regs
	}
	for _, r := range result {
		m.tell(api.Op{Kind: api.OConst, A: r, At: at})
	}
	m.tell(api.Op{Kind: api.OReturn, Args: result, At: at})
	f.Regs, f.Result, f.Code = m.regs, len(result), m.code
	if word == "thread" {
		m.module.Threads = append(m.module.Threads, len(m.module.Funcs))
	}
	m.module.Funcs = append(m.module.Funcs, f)
}

func (m *model) fresh(typ string) value {
	v := value{typ: typ}
	for range size(typ) {
		v.regs = append(v.regs, m.regs)
		m.regs++
	}
	return v
}

// tell: an operation more, to which all that is open leads; it leaves a way open itself.
func (m *model) tell(o api.Op) int {
	n := len(m.code)
	m.close(n)
	m.code = append(m.code, o)
	if o.Kind != api.OReturn {
		m.open = []way{{n, false}}
	}
	return n
}

// close: all that is open leads to an operation.
func (m *model) close(to int) {
	for _, w := range m.open {
		if w.other {
			m.code[w.op].Else = to
		} else {
			m.code[w.op].Next = to
		}
	}
	m.open = nil
}

func (m *model) block() {
	m.K++
	for !m.Is("}") {
		m.stmt()
	}
}

func (m *model) stmt() {
	at := m.At()
	switch word := m.Next(); word {
	case "var":
		to := m.locals[m.Next()]
		m.Type()
		m.K++
		m.moved(to, m.expr(), at)
	case "set":
		m.set(at)
	case "if":
		m.choice(at)
		return
	case "while":
		m.loop(at)
		return
	case "lock", "unlock":
		kind := map[string]int{"lock": api.OLock, "unlock": api.OUnlock}[word]
		m.tell(api.Op{Kind: kind, A: m.things[m.Next()].number, At: at})
	case "send", "out":
		kind := map[string]int{"send": api.OSend, "out": api.OOut}[word]
		to := m.things[m.Next()].number
		m.tell(api.Op{Kind: kind, A: to, B: m.expr().regs[0], At: at})
	case "recv":
		from := m.things[m.Next()].number
		m.tell(api.Op{Kind: api.ORecv, A: m.locals[m.Next()].regs[0], B: from, At: at})
	case "call":
		m.call(at)
	case "return":
		var v value
		if m.Text() != ";" {
			v = m.expr()
		}
		m.tell(api.Op{Kind: api.OReturn, Args: v.regs, At: at})
	}
	m.K++
}

func (m *model) moved(to, from value, at int) {
	for i, r := range to.regs {
		m.tell(api.Op{Kind: api.OMove, A: r, B: from.regs[i], At: at})
	}
}

func (m *model) choice(at int) {
	n := m.tell(api.Op{Kind: api.OIf, A: m.expr().regs[0], At: at})
	m.block()
	behind := m.open
	m.open = []way{{n, true}}
	if m.Is("else") {
		m.block()
	}
	m.open = append(m.open, behind...)
}

func (m *model) loop(at int) {
	begin := len(m.code)
	n := m.tell(api.Op{Kind: api.OIf, A: m.expr().regs[0], At: at})
	m.block()
	m.close(begin)
	m.open = []way{{n, true}}
}

func (m *model) call(at int) {
	to, name := "", m.Next()
	if m.Is("=") {
		to, name = name, m.Next()
	}
	o := api.Op{Kind: api.OCall, A: m.things[name].number, B: -1, At: at}
	m.K++
	for !m.Is(")") {
		o.Args = append(o.Args, m.expr().regs...)
		m.Is(",")
	}
	if to != "" {
		o.B, o.K = m.locals[to].regs[0], size(m.things[name].typ)
	}
	m.tell(o)
}

// set: a name is nothing but itself; of other places the last part isn't told, but kept until the value is there.
func (m *model) set(at int) {
	if m.Tokens[m.K+1].Text == "=" {
		name := m.Next()
		m.K++
		from := m.expr()
		if to, is := m.locals[name]; is {
			m.moved(to, from, at)
			return
		}
		for i, r := range from.regs {
			m.tell(api.Op{Kind: api.OStore, A: m.things[name].first + i, B: r, K: i, At: at})
		}
		return
	}
	place := m.first()
	for {
		o, typ, last := m.link(place)
		if !last {
			place = m.linked(o, typ)
			continue
		}
		m.K++
		from := m.expr()
		if o.Kind == api.OIndex {
			m.tell(api.Op{Kind: api.OElem, A: o.B, B: o.C, C: o.D, D: from.regs[0], At: at})
			return
		}
		for i, r := range from.regs {
			m.tell(api.Op{Kind: api.OPut, A: o.B, B: o.C + i, C: r, K: i, At: at})
		}
		return
	}
}

// expr reads an expression and what stands behind its first part.
func (m *model) expr() value {
	v := m.first()
	for m.Text() == "." || m.Text() == "[" {
		o, typ, _ := m.link(v)
		v = m.linked(o, typ)
	}
	return v
}

// link reads a field, an index or a cut: its operation, but for where its words go; their type; and whether it is the last of a place.
func (m *model) link(of value) (api.Op, string, bool) {
	o := api.Op{At: m.At(), B: of.regs[0]}
	if m.Next() == "." {
		name := m.Next()
		o.Kind = api.OGet
		for _, q := range m.things[of.typ[1:]].fields {
			if q.Name == name {
				return o, q.Type, m.Text() == "="
			}
			o.C += size(q.Type)
		}
	}
	o.Kind, o.C, o.D = api.OIndex, of.regs[1], m.expr().regs[0]
	typ := "int"
	if m.Is(":") {
		o = api.Op{Kind: api.OCut, At: o.At, C: o.B, D: o.C, E: o.D, F: m.expr().regs[0]}
		typ = "[]int"
	}
	m.K++
	return o, typ, m.Text() == "="
}

// linked tells what link has read.
func (m *model) linked(o api.Op, typ string) value {
	v := m.fresh(typ)
	if o.Kind == api.OCut {
		o.A, o.B = v.regs[0], v.regs[1]
		m.tell(o)
		return v
	}
	for i, r := range v.regs {
		word := o
		word.A = r
		if o.Kind == api.OGet {
			word.C, word.K = o.C+i, i
		}
		m.tell(word)
	}
	return v
}

// word: an operation whose word goes to a fresh register.
func (m *model) word(o api.Op, typ string) value {
	v := m.fresh(typ)
	o.A = v.regs[0]
	m.tell(o)
	return v
}

func (m *model) first() value {
	o := api.Op{At: m.At()}
	switch word := m.Next(); word {
	case "true":
		o.Kind, o.K = api.OConst, 1
	case "false", "nil":
		o.Kind = api.OConst
	case "new":
		name := m.Next()
		o.Kind, o.B = api.ONew, m.things[name].number
		return m.word(o, "*"+name)
	case "release":
		o.Kind, o.B = api.ORelease, slices.Index(m.hatches, m.Next())
	case "len":
		m.K++
		v := m.expr()
		m.K++
		return value{v.regs[1:], "int"}
	case "make":
		m.K++
		o.Kind, o.C = api.OMake, m.expr().regs[0]
		m.K++
		v := m.fresh("[]int")
		o.A, o.B = v.regs[0], v.regs[1]
		m.tell(o)
		return v
	case "(":
		m.operator(&o)
	default:
		if strings.Contains("0123456789", word[:1]) {
			o.Kind = api.OConst
			o.K, _ = strconv.Atoi(word)
			break
		}
		return m.name(word, o)
	}
	return m.word(o, "int")
}

// operator reads what stands behind a "(".
func (m *model) operator(o *api.Op) {
	if sign := m.Text(); sign == "-" || sign == "!" {
		m.K++
		o.Kind, o.K = api.OUnary, 1+strings.Index("-!", sign)
		o.B = m.expr().regs[0]
	} else {
		o.Kind = api.OBinary
		o.B = m.expr().regs[0]
		o.K = 1 + slices.Index(strings.Fields("+ - * / % & | < <= == !="), m.Next())
		o.C = m.expr().regs[0]
	}
	m.K++
}

func (m *model) name(name string, o api.Op) value {
	if v, is := m.locals[name]; is {
		return v
	}
	t := m.things[name]
	if t.word == "input" {
		o.Kind, o.B = api.OInput, t.number
		return m.word(o, "int")
	}
	v := m.fresh(t.typ)
	for i, r := range v.regs {
		m.tell(api.Op{Kind: api.OLoad, A: r, B: t.first + i, K: i, At: o.At})
	}
	return v
}
