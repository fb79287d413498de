package code_test

import (
	"fmt"
	"math"
	"math/rand/v2"
	"slices"
	"strings"

	"portcullis/api"
)

// forms are the kinds' names, in the order of api, and what may stand in A to F and K: a number of a register, an input, a hatch, a global word, a struct, a lock, a channel, a sink or a function (its first letter), of an object's word (x), of an operator with one (u) or two (b) operands, 0 or 1 (k), any number (*), or 0 alone (.). What stands in B and K of a call is told beside them.
const forms = `const r.....* input ri..... release rh..... move rr..... unary rr....u binary rrr...b
load rg....k store gr....k new rs..... make rrr.... get rrx...k put rxr...k index rrrr... elem rrrr... cut rrrrrr.
lock l...... unlock l...... send cr..... recv rc..... out or..... if r...... call f*....* return .......`

var formList = strings.Fields(forms)

// form: the name of a kind, and what may stand in its fields; "" for no kind.
func form(kind int) (string, string) {
	if kind < 1 || kind > len(formList)/2 {
		return "", ""
	}
	return formList[kind*2-2], formList[kind*2-1]
}

// fields: the fields A to F and K.
func fields(o *api.Op) []*int { return []*int{&o.A, &o.B, &o.C, &o.D, &o.E, &o.F, &o.K} }

// span: the least and the greatest number that may stand where a form has a letter.
func span(m api.Module, f api.Func, letter byte) (int, int) {
	switch letter {
	case '*':
		return math.MinInt, math.MaxInt
	case 'u':
		return 1, 2
	case 'b':
		return 1, 11
	case 'k':
		return 0, 1
	case 'x':
		return 0, 15
	case 'r':
		return 0, f.Regs - 1
	case 'g':
		words := 0
		for _, g := range m.Globals {
			words += g.Size
		}
		return 0, words - 1
	case 's':
		return 0, len(m.Structs) - 1
	case 'l':
		return 0, len(m.Locks) - 1
	case 'c':
		return 0, len(m.Chans) - 1
	case 'o':
		return 0, len(m.Sinks) - 1
	case 'i':
		return 0, len(m.Inputs) - 1
	case 'h':
		return 0, len(m.Hatches) - 1
	case 'f':
		return 0, len(m.Funcs) - 1
	}
	return 0, 0
}

// sizes: are the sizes of a list of at most so many within these bounds?
func sizes(list []api.Sized, most, low, high int) bool {
	for _, s := range list {
		if s.Size < low || s.Size > high {
			return false
		}
	}
	return len(list) <= most
}

// right: the chapter's words on code.
func right(m api.Module) bool {
	ok := sizes(m.Globals, 16, 1, 2) && sizes(m.Structs, 4, 0, 16) && sizes(m.Chans, 4, 1, 4) && len(m.Locks) <= 8 && len(m.Inputs) <= 8 && len(m.Sinks) <= 4 && len(m.Hatches) <= 8
	ok = ok && len(m.Funcs) >= 1 && len(m.Funcs) <= 12 && len(m.Threads) <= 4
	for _, n := range m.Threads {
		ok = ok && n >= 0 && n < len(m.Funcs) && m.Funcs[n].Params == 0
	}
	all := 0
	for _, f := range m.Funcs {
		ok = ok && f.Regs >= 0 && f.Regs <= 1024 && f.Params >= 0 && f.Params <= f.Regs && f.Result >= 0 && f.Result <= 2 && len(f.Code) > 0
		all += len(f.Code)
	}
	if !ok || all > 4096 {
		return false
	}
	for _, f := range m.Funcs {
		for _, o := range f.Code {
			ok = ok && rightOp(m, f, o)
		}
	}
	return ok
}

// rightOp: the chapter's words on an operation, where all else is right.
func rightOp(m api.Module, f api.Func, o api.Op) bool {
	name, letters := form(o.Kind)
	if name == "" {
		return false
	}
	for i, field := range fields(&o) {
		if low, high := span(m, f, letters[i]); *field < low || *field > high {
			return false
		}
	}
	for _, r := range o.Args {
		if r < 0 || r >= f.Regs {
			return false
		}
	}
	if (name == "make" || name == "cut") && o.A == o.B {
		return false
	}
	goes := func(n int) bool { return n >= 0 && n < len(f.Code) }
	switch name {
	case "return":
		return len(o.Args) == f.Result && o.Next == 0 && o.Else == 0
	case "if":
		return len(o.Args) == 0 && goes(o.Next) && goes(o.Else)
	case "call":
		to := m.Funcs[o.A]
		nowhere := o.K == 0 && o.B == -1
		somewhere := o.K == to.Result && o.K != 0 && o.B >= 0 && o.B < f.Regs && o.B+o.K-1 < f.Regs
		return len(o.Args) == to.Params && (nowhere || somewhere) && goes(o.Next) && o.Else == 0
	}
	return len(o.Args) == 0 && goes(o.Next) && o.Else == 0
}

// shown: the chapter's words on code's text.
func shown(m api.Module) string {
	text := ""
	for i, f := range m.Funcs {
		text += fmt.Sprintf("func %d %d %d %d\n", i, f.Params, f.Regs, f.Result)
		for j, o := range f.Code {
			name, _ := form(o.Kind)
			row := []any{j, name, o.A, o.B, o.C, o.D, o.E, o.F, o.K}
			for _, r := range o.Args {
				row = append(row, r)
			}
			if name != "return" {
				row = append(row, "->", o.Next)
			}
			if name == "if" {
				row = append(row, o.Else)
			}
			text += fmt.Sprintln(row...)
		}
	}
	return text
}

// maker makes code that is right.
type maker struct{ *rand.Rand }

func named(n int) []string { return make([]string, n) }

func (r maker) sized(n, low, high int) []api.Sized {
	list := make([]api.Sized, n)
	for i := range list {
		list[i] = api.Sized{Name: fmt.Sprint("n", i), Size: low + r.IntN(high-low+1)}
	}
	return list
}

func (r maker) module() api.Module {
	m := api.Module{Globals: r.sized(r.IntN(17), 1, 2), Structs: r.sized(r.IntN(5), 0, 16), Chans: r.sized(r.IntN(5), 1, 4), Locks: named(r.IntN(9)), Inputs: named(r.IntN(9)), Sinks: named(r.IntN(5)), Hatches: named(r.IntN(9))}
	for range 1 + r.IntN(12) {
		f := api.Func{Regs: r.IntN(9), Result: r.IntN(3), Code: make([]api.Op, 1+r.IntN(9))}
		if f.Regs == 0 {
			f.Result = 0
		} else {
			f.Params = r.IntN(min(f.Regs, 4) + 1)
		}
		m.Funcs = append(m.Funcs, f)
	}
	for i, f := range m.Funcs {
		if f.Params == 0 && len(m.Threads) < 4 {
			m.Threads = append(m.Threads, i)
		}
		for j := range f.Code {
			f.Code[j] = r.op(m, f)
		}
	}
	return m
}

// op: an operation of any kind that can stand in a function.
func (r maker) op(m api.Module, f api.Func) api.Op {
	for {
		o := api.Op{Kind: 1 + r.IntN(23), At: r.IntN(100), Next: r.IntN(len(f.Code))}
		_, letters := form(o.Kind)
		for i, field := range fields(&o) {
			if low, high := span(m, f, letters[i]); high == math.MaxInt {
				*field = int(r.Uint64())
			} else if high >= low {
				*field = low + r.IntN(high-low+1)
			}
		}
		r.rest(m, f, &o)
		if rightOp(m, f, o) {
			return o
		}
	}
}

// rest: what an operation's form doesn't tell.
func (r maker) rest(m api.Module, f api.Func, o *api.Op) {
	count := 0
	switch o.Kind {
	case api.OIf:
		o.Else = r.IntN(len(f.Code))
	case api.OReturn:
		count, o.Next = f.Result, 0
	case api.OCall:
		count = m.Funcs[o.A].Params
		o.B, o.K = -1, 0
		if to := m.Funcs[o.A].Result; to > 0 && f.Regs >= to && r.IntN(2) == 0 {
			o.B, o.K = r.IntN(f.Regs-to+1), to
		}
	}
	for range count {
		o.Args = append(o.Args, r.IntN(max(f.Regs, 1)))
	}
}

// numbers: all of code that is a number and counts.
func numbers(m *api.Module) []*int {
	var list []*int
	for _, things := range [][]api.Sized{m.Globals, m.Structs, m.Chans} {
		for i := range things {
			list = append(list, &things[i].Size)
		}
	}
	for i := range m.Threads {
		list = append(list, &m.Threads[i])
	}
	for i := range m.Funcs {
		f := &m.Funcs[i]
		list = append(list, &f.Regs, &f.Params, &f.Result)
		for j := range f.Code {
			o := &f.Code[j]
			list = append(list, append(fields(o), &o.Kind, &o.Next, &o.Else)...)
			for k := range o.Args {
				list = append(list, &o.Args[k])
			}
		}
	}
	return list
}

// edges: numbers about a limit, and far from all.
func edges(around ...int) []int {
	list := []int{math.MinInt, math.MinInt + 1, -1 << 32, -2, -1, 0, 1, 2, 1 << 32, 1<<32 + 1, math.MaxInt - 1, math.MaxInt}
	for _, n := range around {
		list = append(list, n-1, n, n+1)
	}
	slices.Sort(list)
	return slices.Compact(list)
}
