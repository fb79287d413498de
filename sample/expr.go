package sample

import (
	"strconv"
	"strings"

	"portcullis/api"
)

// mostDeep: so many expressions stand within each other at most.
const mostDeep = 4

// expr writes a value that goes into a place of a type.
func (m *maker) expr(typ string, deep int) {
	if strings.HasPrefix(typ, "*") && m.below(4) == 0 {
		m.put("nil")
	} else {
		m.exact(typ, deep)
	}
}

// exact writes a value of a type.
func (m *maker) exact(typ string, deep int) {
	if m.slip() {
		typ = m.someType()
		if m.below(3) == 0 {
			m.odd(deep)
			return
		}
	}
	if deep >= mostDeep || m.spare <= 0 || m.below(2) == 0 {
		m.leaf(typ)
		return
	}
	fields := m.fields(typ)
	if len(fields) > 0 && m.below(3) == 0 {
		m.fieldOf(fields, deep)
		return
	}
	forms := formsOf(typ)
	if len(forms) == 0 {
		m.leaf(typ)
		return
	}
	m.form(forms[m.below(len(forms))], deep+1)
}

// odd writes what is wrong whatever must stand there, or "nil".
func (m *maker) odd(deep int) {
	forms := []string{"nil . none", "INT . none", "WORDS . none", "nil", "POINTER . none", "( WORDS == WORDS )", "( WORDS != nil )", "( POINTER == INT )"}
	m.form(forms[m.below(len(forms))], deep+1)
}

// formsOf: how a value of a type is written with others; "" stands for those of which there is none.
func formsOf(typ string) []string {
	switch typ {
	case "int":
		return []string{"( - INT )", "( INT + INT )", "( INT - INT )", "( INT * INT )", "( INT / INT )", "( INT % INT )", "len ( WORDS )", "WORDS [ INT ]", "WORDS [ INT ]"}
	case "bool":
		return []string{"( ! BOOL )", "( BOOL & BOOL )", "( BOOL | BOOL )", "( INT < INT )", "( INT <= INT )", "( INT SAME INT )", "( BOOL SAME BOOL )", "( POINTER SAME nil )", "( nil SAME POINTER )", "( nil SAME nil )", "BOTH"}
	case "[]int":
		return []string{"WORDS [ INT : INT ]", "WORDS [ INT : INT ]", "make ( INT )"}
	}
	return nil
}

// form writes tokens; words of great letters stand for what is chosen.
func (m *maker) form(words string, deep int) {
	for _, word := range strings.Fields(words) {
		switch word {
		case "INT":
			m.exact("int", deep)
		case "BOOL":
			m.exact("bool", deep)
		case "WORDS":
			m.exact("[]int", deep)
		case "POINTER":
			m.exact(m.pointer(), deep)
		case "SAME":
			m.put(m.one("== !="))
		case "BOTH":
			typ := m.pointer()
			m.put("(")
			m.exact(typ, deep)
			m.form("SAME", deep)
			m.exact(typ, deep)
			m.put(")")
		default:
			m.put(word)
		}
	}
}

// pointer: the type of some struct's objects, or of a number, if there is none.
func (m *maker) pointer() string {
	list := m.named("struct")
	if len(list) == 0 {
		return "nil"
	}
	return "*" + list[m.below(len(list))].name
}

// leaf writes a value of a type that has no others in it.
func (m *maker) leaf(typ string) {
	local, global := m.local(typ), m.oneOf(m.globals(), typ)
	name, pointer := strings.CutPrefix(typ, "*")
	switch form := m.below(6); {
	case form < 3 && local != "":
		m.put(local)
	case form < 5 && global != "":
		m.put(global)
	case pointer:
		m.put("new " + name)
	case typ == "int" && form == 5:
		m.put(m.nameOf("input"))
	case typ == "int" && form == 4:
		m.put("release h" + strconv.Itoa(m.below(3)))
	case typ == "int":
		m.put(strconv.Itoa(m.below(12)))
	case typ == "bool":
		m.put(m.one("true false"))
	case typ == "[]int":
		m.put("make ( " + strconv.Itoa(m.below(5)) + " )")
	default:
		m.put("nil")
	}
}

// field is a field of a struct.
type field struct {
	of string
	api.Pair
}

// fields: those of a type; of any, if it is "".
func (m *maker) fields(typ string) []field {
	var list []field
	for _, d := range m.named("struct") {
		for _, q := range d.pairs {
			if typ == "" || q.Type == typ {
				list = append(list, field{d.name, q})
			}
		}
	}
	return list
}

// fieldOf writes a field of some object, and tells its type.
func (m *maker) fieldOf(list []field, deep int) string {
	if len(list) == 0 {
		m.form("WORDS [ INT ]", deep+1)
		return "int"
	}
	f := list[m.below(len(list))]
	m.exact("*"+f.of, deep+1)
	m.put(". " + f.Name)
	return f.Type
}
