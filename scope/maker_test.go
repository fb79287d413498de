package scope_test

import (
	"math/rand/v2"
	"strconv"
	"strings"
)

// maker makes texts of programs whose names are few, so that each stands for many things.
type maker struct {
	*rand.Rand
	names int
	text  strings.Builder
	spare int // tokens that may still be written
}

// made: a text that layer 4 reads.
func made(seed uint64) string {
	m := &maker{Rand: rand.New(rand.NewPCG(seed, 6)), spare: 1500}
	m.names = 2 + m.IntN(6)
	if m.IntN(3) == 0 {
		m.names = 10 + m.IntN(60)
	}
	kinds := "lock chan struct var input sink func thread thread func struct var"
	if m.IntN(4) == 0 {
		kinds = m.pick("lock chan struct var input sink func thread") + " " + m.pick("lock chan struct var input sink func thread")
	}
	for range m.IntN(1 + m.pickInt(5, 12, 40)) {
		m.decl(m.pick(kinds))
	}
	return m.text.String()
}

func (m *maker) pick(words string) string {
	list := strings.Fields(words)
	return list[m.IntN(len(list))]
}

func (m *maker) pickInt(list ...int) int { return list[m.IntN(len(list))] }

// put writes tokens; NAME and TYPE stand for some of them.
func (m *maker) put(words string) {
	for _, word := range strings.Fields(words) {
		switch word {
		case "NAME":
			word = "n" + strconv.Itoa(m.IntN(m.names))
		case "TYPE":
			word = []string{"int", "bool", "[ ] int", "* n" + strconv.Itoa(m.IntN(m.names))}[m.IntN(4)]
		}
		m.text.WriteString(word + " ")
		m.spare--
	}
}

// list writes some pairs with signs between, or behind, them.
func (m *maker) list(most int, between, behind string) {
	for i := range m.IntN(most + 1) {
		if i > 0 {
			m.put(between)
		}
		m.put("NAME TYPE " + behind)
	}
}

func (m *maker) decl(word string) {
	m.put(word + " NAME")
	switch word {
	case "chan":
		m.put("2 ;")
	case "struct":
		m.put("{")
		m.list(6, "", ";")
		m.put("}")
	case "var":
		m.put("TYPE ;")
	case "func":
		m.put("(")
		m.list(4, ",", "")
		m.put(")")
		if m.IntN(2) == 0 {
			m.put("TYPE")
		}
		m.block(0, m.pickInt(3, 8))
	case "thread":
		m.block(0, m.pickInt(3, 8, 90))
	default:
		m.put(";")
	}
}

func (m *maker) block(deep, most int) {
	m.put("{")
	m.stmts(deep, m.IntN(most+1))
	m.put("}")
}

func (m *maker) stmts(deep, count int) {
	for range count {
		if m.spare > 0 {
			m.stmt(deep)
		}
	}
}

func (m *maker) stmt(deep int) {
	word := m.pick("var var var set if while lock unlock send recv out call call return")
	if deep > 4 && (word == "if" || word == "while") {
		word = "var"
	}
	m.put(word)
	switch word {
	case "var":
		m.put("NAME TYPE =")
		m.expr(0)
	case "set":
		m.put([]string{"NAME", "NAME . NAME", "NAME [ NAME ]"}[m.IntN(3)])
		m.put("=")
		m.expr(0)
	case "if", "while":
		m.expr(0)
		m.block(deep+1, 3)
		if word == "if" && m.IntN(2) == 0 {
			m.put("else {")
			m.stmt(deep + 1)
			m.stmts(deep+1, m.IntN(2))
			m.put("}")
		}
		return
	case "lock", "unlock":
		m.put("NAME")
	case "recv":
		m.put("NAME NAME")
	case "send", "out":
		m.put("NAME")
		m.expr(0)
	case "call":
		m.put([]string{"NAME", "NAME = NAME"}[m.IntN(2)])
		m.put("(")
		for i := range m.IntN(4) {
			if i > 0 {
				m.put(",")
			}
			m.expr(0)
		}
		m.put(")")
	case "return":
		if m.IntN(2) == 0 {
			m.expr(0)
		}
	}
	m.put(";")
}

func (m *maker) expr(deep int) {
	forms := []string{"NAME", "NAME", "NAME", "1", "true", "nil", "new NAME", "release NAME", "NAME . NAME", "( EXPR * EXPR )", "( EXPR == EXPR )", "( - EXPR )", "len ( EXPR )", "make ( EXPR )", "EXPR . NAME", "EXPR [ EXPR ]", "EXPR [ EXPR : EXPR ]"}
	if deep > 3 {
		forms = forms[:9]
	}
	for _, word := range strings.Fields(forms[m.IntN(len(forms))]) {
		if word == "EXPR" {
			m.expr(deep + 1)
		} else {
			m.put(word)
		}
	}
}
