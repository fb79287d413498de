package hatch_test

import (
	"cmp"
	"fmt"
	"math/rand/v2"
	"slices"
	"strings"
	"testing"

	"portcullis/api"
	"portcullis/hatch"
	"portcullis/lex"
	"portcullis/parse"
	"portcullis/policy"
	"portcullis/sample"
)

// model is the chapter's words, of two texts' tokens instead of their trees.
type model struct {
	words, names []string // of the declarations
	released     []api.Token
	lines        [][]api.Token
	diags        map[api.Diag]bool
}

func modelOf(program, lines string) *model {
	m := &model{diags: map[api.Diag]bool{}}
	deep := 0
	tokens, _, _ := lex.Tokens(program)
	for i, token := range tokens {
		switch token.Text {
		case "{":
			deep++
		case "}":
			deep--
		case "lock", "chan", "struct", "var", "input", "sink", "func", "thread":
			if deep == 0 {
				m.words, m.names = append(m.words, token.Text), append(m.names, tokens[i+1].Text)
			}
		case "release":
			m.released = append(m.released, api.Token{Text: tokens[i+1].Text, At: token.At})
		}
	}
	for _, line := range strings.Split(lines, "\n") {
		if tokens, _, _ := lex.Tokens(line); len(tokens) > 0 {
			m.lines = append(m.lines, tokens)
		}
	}
	return m
}

// of: the lines that begin with one of some words, in order.
func (m *model) of(words ...string) [][]string {
	var all [][]string
	for _, line := range m.lines {
		if slices.Contains(words, line[0].Text) {
			var texts []string
			for _, token := range line {
				texts = append(texts, token.Text)
			}
			all = append(all, texts)
		}
	}
	return all
}

// number: the place of the first line of a level of this name.
func (m *model) number(name string) int {
	return slices.IndexFunc(m.of("level"), func(line []string) bool { return line[1] == name })
}

func (m *model) wrong(holds bool, code api.Errno, name string) {
	if holds {
		m.diags[api.Diag{Code: code, Name: name}] = true
	}
}

// kind: the word of the declaration of a name.
func (m *model) kind(name string) string {
	if i := slices.Index(m.names, name); i >= 0 {
		return m.words[i]
	}
	return ""
}

func (m *model) fit() (api.Levels, []api.Diag) {
	labels := m.of("input", "sink", "lock", "chan", "var")
	for _, list := range [][][]string{m.of("level"), labels, m.of("hatch")} {
		for i, line := range list {
			for _, ahead := range list[:i] {
				m.wrong(ahead[0] == line[0] && ahead[1] == line[1], 40, line[1])
			}
		}
	}
	for _, line := range m.of("edge") {
		m.wrong(m.number(line[1]) < 0, 30, line[1])
		m.wrong(m.number(line[2]) < 0, 30, line[2])
	}
	for _, line := range append(labels, m.of("hatch")...) {
		m.wrong(m.number(line[2]) < 0, 30, line[2])
	}
	for _, line := range labels {
		kind := m.kind(line[1])
		m.wrong(kind == "", 41, line[1])
		m.wrong(kind != "" && kind != line[0], 42, line[1])
	}
	for i, name := range m.names {
		same := func(line []string) bool { return line[0] == m.words[i] && line[1] == name }
		m.wrong((m.words[i] == "input" || m.words[i] == "sink") && !slices.ContainsFunc(labels, same), 60, name)
	}
	for _, line := range m.lines {
		if line[0].Text == "hatch" {
			m.hatch(line)
		}
	}
	l := m.levels()
	unclear := false
	for d := range m.diags {
		unclear = unclear || d.Code == 40 || d.Code == 30
	}
	m.wrong(!unclear && !isLattice(l.Size, l.Edges), 31, "")
	for _, token := range m.released {
		if !slices.ContainsFunc(m.of("hatch"), func(line []string) bool { return line[1] == token.Text }) {
			m.diags[api.Diag{At: token.At, Code: 41, Name: token.Text}] = true
		}
	}
	return l, m.sorted()
}

// hatch: what is wrong in a hatch's expression.
func (m *model) hatch(line []api.Token) {
	mustnt := strings.Fields("true false nil len make new release . [ ! & | < <= == !=")
	for i := 3; i < len(line); i++ {
		token := line[i]
		m.wrong(slices.Contains(mustnt, token.Text), 50, line[1].Text)
		if before := line[i-1].Text; token.Kind != api.TName || before == "new" || before == "release" || before == "." {
			continue
		}
		kind := m.kind(token.Text)
		m.wrong(kind == "", 41, token.Text)
		m.wrong(kind != "" && kind != "input", 42, token.Text)
	}
}

func (m *model) sorted() []api.Diag {
	var list []api.Diag
	for d := range m.diags {
		list = append(list, d)
	}
	slices.SortFunc(list, func(a, b api.Diag) int {
		if a.At != b.At {
			return cmp.Compare(a.At, b.At)
		}
		if a.Code != b.Code {
			return cmp.Compare(a.Code, b.Code)
		}
		return strings.Compare(a.Name, b.Name)
	})
	return list
}

func (m *model) levels() api.Levels {
	l := api.Levels{Size: len(m.of("level"))}
	for _, line := range m.of("edge") {
		if a, b := m.number(line[1]), m.number(line[2]); a >= 0 && b >= 0 {
			l.Edges = append(l.Edges, [2]int{a, b})
		}
	}
	for _, line := range m.of("hatch") {
		l.Hatches = append(l.Hatches, m.number(line[2]))
	}
	for word, list := range map[string]*[]int{"input": &l.Inputs, "sink": &l.Sinks, "lock": &l.Locks, "chan": &l.Chans, "var": &l.Globals} {
		for i, name := range m.names {
			if m.words[i] != word {
				continue
			}
			*list = append(*list, -1)
			for _, line := range slices.Backward(m.of(word)) {
				if line[1] == name {
					(*list)[len(*list)-1] = m.number(line[2])
				}
			}
		}
	}
	return l
}

// isLattice: layer 1's words.
func isLattice(n int, edges [][2]int) bool {
	var below [8][8]bool
	for i := range min(n, 8) {
		below[i][i] = true
	}
	for range n {
		for _, e := range edges {
			for i := range n {
				below[i][e[1]] = below[i][e[1]] || below[i][e[0]]
			}
		}
	}
	for a := range n {
		for b := range n {
			joins, meets := 0, 0
			for c := range n {
				join, meet := below[a][c] && below[b][c], below[c][a] && below[c][b]
				for d := range n {
					join = join && (!below[a][d] || !below[b][d] || below[c][d])
					meet = meet && (!below[d][a] || !below[d][b] || below[d][c])
				}
				joins += map[bool]int{true: 1}[join]
				meets += map[bool]int{true: 1}[meet]
			}
			if joins != 1 || meets != 1 {
				return false
			}
		}
	}
	return n > 0
}

// maker makes policies for a program. Where slips is above 0, about one of so many parts isn't as it must be.
type maker struct {
	*rand.Rand
	m      *model
	slips  int
	levels []string
}

func (k *maker) slip() bool { return k.slips > 0 && k.IntN(k.slips) == 0 }

func pick[T any](k *maker, list []T) T { return list[k.IntN(len(list))] }

func (k *maker) level() string {
	if k.slip() || len(k.levels) == 0 {
		return pick(k, []string{"nowhere", "nothing", "h0"})
	}
	return pick(k, k.levels)
}

// lattice writes levels and edges that are a lattice, with an edge or a level more at times.
func (k *maker) lattice() []string {
	shape := pick(k, []string{"a", "a b|a b", "a b c|a b|b c", "c b a|b c|a b|a c", "a b c d|a b|a c|b d|c d", "d a c b|a b|a c|b d|c d|a a", "a b c d e|a b|a c|a d|b e|c e|d e", "a b c d e f g h|a b|a c|a d|b e|b f|c e|c g|d f|d g|e h|f h|g h"})
	var lines []string
	for i, part := range strings.Split(shape, "|") {
		if i > 0 {
			lines = append(lines, "edge "+part)
			continue
		}
		k.levels = strings.Fields(part)
		for _, name := range k.levels {
			lines = append(lines, "level "+name)
		}
	}
	for range 3 {
		if k.slip() {
			lines = append(lines, "edge "+k.level()+" "+k.level())
		}
	}
	if k.slip() && len(k.levels) < 8 {
		lines = append(lines, "level "+pick(k, append(k.levels, "h1", "z")))
	}
	for range 2 {
		if i := k.IntN(len(lines)); len(lines) > 1 && k.slip() {
			lines = slices.Delete(lines, i, i+1)
		}
	}
	return lines
}

// name: the name of a declaration with this word, or of something else; "" if there is none.
func (k *maker) name(word string) string {
	if k.slip() {
		return pick(k, append(k.m.names, "z", "y", "h0", "a", "v0", "f1"))
	}
	var list []string
	for i, name := range k.m.names {
		if k.m.words[i] == word {
			list = append(list, name)
		}
	}
	if list == nil {
		return ""
	}
	return pick(k, list)
}

func (k *maker) policy() string {
	lines := k.lattice()
	for i, name := range k.m.names {
		word := k.m.words[i]
		if k.slip() {
			word = pick(k, []string{"input", "sink", "lock", "chan", "var"})
		}
		must := word == "input" || word == "sink"
		if strings.Contains("input sink lock chan var", word) && (must && !k.slip() || !must && k.IntN(2) == 0) {
			lines = append(lines, word+" "+name+" "+k.level())
		}
	}
	if k.slip() {
		word := pick(k, []string{"input", "sink", "lock", "chan", "var"})
		lines = append(lines, word+" "+k.name(word)+" "+k.level())
	}
	for i := range 3 + k.IntN(3) {
		if !k.slip() {
			lines = append(lines, fmt.Sprintf("hatch h%d %s %s", i, k.level(), k.expr(3)))
		}
	}
	if k.slip() {
		lines = append(lines, "hatch h1 "+k.level()+" "+k.expr(1))
	}
	if k.IntN(2) == 0 {
		k.Shuffle(len(lines), func(i, j int) { lines[i], lines[j] = lines[j], lines[i] })
	}
	return strings.Join(lines, "\n")
}

// expr: a hatch's expression that has up to so many within each other.
func (k *maker) expr(deep int) string {
	if name := k.name("input"); deep == 0 || k.IntN(3) == 0 {
		if name == "" || k.IntN(3) == 0 {
			return fmt.Sprint(k.IntN(12))
		}
		return name
	}
	sub := func() string { return k.expr(deep - 1) }
	if k.slip() {
		return pick(k, []string{"true", "nil", "new z", "release h0", "release z", "len ( " + sub() + " )", "make ( " + sub() + " )", sub() + " . z", sub() + " [ " + sub() + " ]", sub() + " [ " + sub() + " : " + sub() + " ]", "( ! " + sub() + " )", "( " + sub() + " < " + sub() + " )", "( " + sub() + " & " + sub() + " )", "( " + sub() + " == nil )", "( true != " + sub() + " )"})
	}
	if k.IntN(4) == 0 {
		return "( - " + sub() + " )"
	}
	return "( " + sub() + pick(k, strings.Split(" + | - | * | / | % ", "|")) + sub() + " )"
}

// P8.1: policies of all sorts, held against programs of all sorts, are told as the chapter's words tell their texts.
func TestModel(t *testing.T) {
	codes, clean, numbers := map[api.Errno]int{}, 0, map[int]int{}
	for seed := range uint64(4000) {
		s := sample.Program(seed%800, 0)
		k := &maker{Rand: rand.New(rand.NewPCG(seed, 8)), m: modelOf(s, ""), slips: []int{0, 200, 60, 20, 6}[seed%5]}
		lines := k.policy()
		p, at, e := parse.Program(s)
		q, line, f := policy.Parse(lines)
		if e != api.OK || f != api.OK {
			t.Fatalf("%d: %q %q: %d %d, %d %d", seed, s, lines, at, e, line, f)
		}
		levels, diags := hatch.Fit(p, q)
		wantLevels, want := modelOf(s, lines).fit()
		if !slices.Equal(diags, want) || shown(levels) != shown(wantLevels) {
			t.Fatalf("%d: %q with %q:\n%s %v, want\n%s %v", seed, s, lines, shown(levels), diags, shown(wantLevels), want)
		}
		if len(diags) == 0 {
			clean++
		}
		for _, d := range diags {
			codes[d.Code]++
		}
		for _, n := range slices.Concat(levels.Inputs, levels.Sinks, levels.Locks, levels.Chans, levels.Globals, levels.Hatches) {
			numbers[n]++
		}
	}
	for _, code := range []api.Errno{api.ErrTwice, api.ErrLevel, api.ErrNone, api.ErrKind, api.ErrLabel, api.ErrType, api.ErrOrder} {
		if codes[code] < 50 {
			t.Error("seldom", code, codes)
		}
	}
	for n := -1; n < 8; n++ {
		if numbers[n] < 100 {
			t.Error("seldom", n, numbers)
		}
	}
	if clean < 800 || clean > 2000 {
		t.Error("the texts are all of one sort", clean)
	}
}
