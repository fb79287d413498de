// Package sample makes texts of programs, and code, for tests.
package sample

import (
	"slices"
	"strconv"
	"strings"

	"portcullis/api"
)

// Program: a text that layer 4 reads, in which every name means what it must; the same for the same seed. Where slips is above 0, about one of so many parts hasn't the type that it must have, or isn't as it must be; else all fit.
func Program(seed uint64, slips int) string {
	m := &maker{state: seed, slips: slips, spare: mostTokens}
	m.declare()
	for _, d := range m.decls {
		m.decl(d)
	}
	return m.text.String()
}

// mostTokens: so many tokens are written before nothing is begun any more; what has begun then comes to an end within a text's limits.
const mostTokens = 1500

// declared is a declaration; a function's parameters, or a struct's fields, stand in its pairs.
type declared struct {
	word, name, typ string
	pairs           []api.Pair
}

// maker is a text while it is written.
type maker struct {
	state  uint64
	slips  int
	spare  int
	text   strings.Builder
	decls  []declared
	locals []api.Pair
	result string
	last   int
}

// below: a number from 0 to one less than n. (The steps of splitmix64.)
func (m *maker) below(n int) int {
	m.state += 0x9e3779b97f4a7c15
	x := m.state
	x = (x ^ x>>30) * 0xbf58476d1ce4e5b9
	x = (x ^ x>>27) * 0x94d049bb133111eb
	return int((x ^ x>>31) % uint64(n))
}

// slip: shall something be wrong here?
func (m *maker) slip() bool { return m.slips > 0 && m.below(m.slips) == 0 }

// one: a word of a text.
func (m *maker) one(words string) string {
	list := strings.Fields(words)
	return list[m.below(len(list))]
}

func (m *maker) put(words string) {
	for _, word := range strings.Fields(words) {
		m.text.WriteString(word + " ")
		m.spare--
	}
}

// putType writes a type.
func (m *maker) putType(typ string) {
	if name, pointer := strings.CutPrefix(typ, "*"); pointer {
		m.put("* " + name)
	} else {
		m.put(strings.Replace(typ, "[]", "[ ] ", 1))
	}
}

// declare makes the declarations' names, each of a row, as they will stand in the text.
func (m *maker) declare() {
	for range m.below(4) {
		m.add("struct", "")
	}
	kinds := []struct {
		word string
		most int
	}{{"lock", 3}, {"chan", 3}, {"input", 3}, {"sink", 3}, {"var", 8}, {"func", 4}, {"thread", 3}}
	for _, k := range kinds {
		for range m.below(k.most) + 1 {
			m.add(k.word, "")
		}
	}
	for i, d := range m.decls {
		switch d.word {
		case "struct":
			m.decls[i].pairs = m.pairs("f", 5)
		case "var":
			m.decls[i].typ = m.someType()
		case "func":
			m.decls[i].pairs = m.pairs("p", 3)
			if m.below(3) > 0 {
				m.decls[i].typ = m.someType()
			}
		}
	}
	for i := range m.decls {
		k := m.below(i + 1)
		m.decls[i], m.decls[k] = m.decls[k], m.decls[i]
	}
}

func (m *maker) add(word, typ string) {
	name := word[:2] + strconv.Itoa(len(m.decls))
	m.decls = append(m.decls, declared{word: word, name: name, typ: typ})
}

// pairs: up to so many names with types.
func (m *maker) pairs(letter string, most int) []api.Pair {
	var list []api.Pair
	for i := range m.below(most + 1) {
		list = append(list, api.Pair{Name: letter + strconv.Itoa(i), Type: m.someType()})
	}
	return list
}

func (m *maker) someType() string {
	types := []string{"int", "int", "bool", "[]int"}
	for _, d := range m.decls {
		if d.word == "struct" {
			types = append(types, "*"+d.name)
		}
	}
	return types[m.below(len(types))]
}

func (m *maker) decl(d declared) {
	m.put(d.word + " " + d.name)
	switch d.word {
	case "chan":
		m.put(m.one("1 2 4"))
	case "struct":
		m.put("{")
		for _, q := range d.pairs {
			m.putPair(q)
			m.put(";")
		}
		m.put("}")
		return
	case "var":
		m.putType(d.typ)
	case "func":
		m.put("(")
		m.each(len(d.pairs), func(i int) { m.putPair(d.pairs[i]) })
		m.put(")")
		m.putType(d.typ)
		m.body(d)
		return
	case "thread":
		m.body(d)
		return
	}
	m.put(";")
}

func (m *maker) putPair(q api.Pair) {
	m.put(q.Name)
	m.putType(q.Type)
}

// each writes a list with "," between.
func (m *maker) each(count int, write func(int)) {
	for i := range count {
		if i > 0 {
			m.put(",")
		}
		write(i)
	}
}

func (m *maker) body(d declared) {
	m.locals, m.result = slices.Clone(d.pairs), d.typ
	m.block(1, 14)
}

// named: the names of the declarations behind a word.
func (m *maker) named(word string) []declared {
	return slices.DeleteFunc(slices.Clone(m.decls), func(d declared) bool { return d.word != word })
}

func (m *maker) nameOf(word string) string {
	list := m.named(word)
	return list[m.below(len(list))].name
}
