package sample

import (
	"strconv"

	"portcullis/api"
)

// Code: code that can be run; the same for the same seed. The kinds of operations that are told stand there more often than others.
func Code(seed uint64, often ...int) api.Module {
	m := &maker{state: seed}
	c := api.Module{Globals: m.sized("g", 3, 1, 2), Structs: m.sized("s", 3, 0, 16), Chans: m.sized("c", 2, 1, api.MaxCap)}
	c.Locks, c.Inputs, c.Sinks, c.Hatches = m.texts("l", 3), m.texts("i", 2), m.texts("o", 2), m.texts("h", 2)
	for range 1 + m.below(6) {
		f := api.Func{Regs: 2 + m.below(5), Result: m.below(3), Code: make([]api.Op, 1+m.below(16))}
		f.Params = m.below(min(f.Regs, 3) + 1)
		c.Funcs = append(c.Funcs, f)
	}
	c.Funcs[0].Params = 0
	for range m.below(api.MaxThreads + 1) {
		c.Threads = append(c.Threads, m.start(c.Funcs))
	}
	for _, f := range c.Funcs {
		for place := range f.Code {
			f.Code[place] = m.op(c, f, place, often)
		}
	}
	return c
}

// sized: names with sizes, one to so many.
func (m *maker) sized(letter string, most, least, greatest int) []api.Sized {
	var list []api.Sized
	for _, name := range m.texts(letter, most) {
		list = append(list, api.Sized{Name: name, Size: least + m.below(greatest-least+1)})
	}
	return list
}

// texts: names, one to so many.
func (m *maker) texts(letter string, most int) []string {
	var list []string
	for i := range 1 + m.below(most) {
		list = append(list, letter+strconv.Itoa(i))
	}
	return list
}

// start: a function that a thread may run; the first one is one.
func (m *maker) start(funcs []api.Func) int {
	for {
		if n := m.below(len(funcs)); funcs[n].Params == 0 {
			return n
		}
	}
}

// op: an operation that can stand at a place of a function, which has two registers at least.
func (m *maker) op(c api.Module, f api.Func, place int, often []int) api.Op {
	kinds := Kinds()
	o := api.Op{Kind: 1 + m.below(len(kinds)-1), At: m.below(100), Next: (place + 1) % len(f.Code)}
	if len(often) > 0 && m.below(4) > 0 {
		o.Kind = often[m.below(len(often))]
	}
	if m.below(8) == 0 {
		o.Next = m.below(len(f.Code))
	}
	for i, letter := range kinds[o.Kind][1] {
		*Field(&o, letter) = m.number(c, f, kinds[o.Kind][2][i])
	}
	args := 0
	switch o.Kind {
	case api.OMake, api.OCut:
		if o.A == o.B {
			o.B = (o.A + 1 + m.below(f.Regs-1)) % f.Regs
		}
	case api.OIf:
		o.Else = m.below(len(f.Code))
	case api.OReturn:
		o.Next, args = 0, f.Result
	case api.OCall:
		o.B, o.K, args = -1, 0, c.Funcs[o.A].Params
		if result := c.Funcs[o.A].Result; result > 0 && m.below(4) > 0 {
			o.B, o.K = m.below(f.Regs-result+1), result
		}
	}
	for range args {
		o.Args = append(o.Args, m.below(f.Regs))
	}
	return o
}

// number: one that may stand in a field, as Kinds tells it.
func (m *maker) number(c api.Module, f api.Func, what byte) int {
	switch what {
	case '*':
		return m.below(14) - 3
	case 'u':
		return 1 + m.below(api.UNot)
	case 'b':
		return 1 + m.below(api.BNe)
	case 'k':
		return m.below(2)
	case 'x':
		return m.below([]int{2, 16}[m.below(2)])
	case 'g':
		words := 0
		for _, g := range c.Globals {
			words += g.Size
		}
		return m.below(words)
	}
	counts := map[byte]int{'i': len(c.Inputs), 'h': len(c.Hatches), 's': len(c.Structs), 'l': len(c.Locks), 'c': len(c.Chans), 'o': len(c.Sinks), 'f': len(c.Funcs)}
	if count, there := counts[what]; there {
		return m.below(count)
	}
	return m.below(f.Regs)
}
