package lower

import (
	"slices"

	"portcullis/api"
	"portcullis/scope"
)

// The types that count here: a word that is no object's is an int, be it a bool's or nil's.
const (
	integer = "int"
	slice   = "[]int"
)

// span is where words stand, one behind the other: the number of the first, and the type of what they hold.
type span struct {
	first int
	typ   string
}

// numbers: all of a span's words.
func (s span) numbers() []int {
	var list []int
	for k := range words(s.typ) {
		list = append(list, s.first+k)
	}
	return list
}

// spans: of each name of a list where its words are.
type spans map[string]span

// field is a field, and the type of the objects that have it.
type field struct{ typ, name string }

// words: how many words a type has; what has no type has none.
func words(typ string) int {
	switch typ {
	case "":
		return 0
	case slice:
		return 2
	}
	return 1
}

// total: how many words all of a list have.
func total(list []api.Pair) int {
	sum := 0
	for _, q := range list {
		sum += words(q.Type)
	}
	return sum
}

// laid: where the words of a list are, if they stand one behind the other.
func laid(list []api.Pair) spans {
	where, next := spans{}, 0
	for _, q := range list {
		where[q.Name] = span{next, q.Type}
		next += words(q.Type)
	}
	return where
}

// names is what the names of a program mean in its code.
type names struct {
	program api.Program
	table   api.Table
	globals spans
	fields  map[field]span
	hatches map[string]int
	missing bool // a hatch that isn't there is released
}

func newNames(p api.Program, hatches []string) *names {
	table, _ := scope.Names(p)
	n := &names{program: p, table: table, fields: map[field]span{}, hatches: map[string]int{}}
	var globals []api.Pair
	for _, i := range table.Globals {
		globals = append(globals, api.Pair{Name: p.Decls[i].Name, Type: p.Decls[i].Type})
	}
	n.globals = laid(globals)
	for _, i := range table.Structs {
		for name, where := range laid(p.Decls[i].Pairs) {
			n.fields[field{"*" + p.Decls[i].Name, name}] = where
		}
	}
	for i, name := range hatches {
		if _, there := n.hatches[name]; !there {
			n.hatches[name] = i
		}
	}
	return n
}

// number: which one of the declarations of its kind a name means.
func (n *names) number(kind []int, name string) int {
	return slices.Index(kind, scope.Find(n.program, name))
}

// hatch: the number of a hatch.
func (n *names) hatch(name string) int {
	number, there := n.hatches[name]
	if !there {
		n.missing = true
	}
	return number
}
