package points

import (
	"portcullis/api"
	"portcullis/calls"
	"portcullis/code"
)

// body is a function as a thread may call it.
type body struct{ thread, fn int }

// maker makes the graph of code that is right.
type maker struct {
	graph
	module  api.Module
	reach   [][]int
	sites   []api.Site
	globals int          // the variable of the global word 0
	regs    map[body]int // of each body the variable of its register 0; those of what it gives stand behind all registers
}

func newMaker(module api.Module) *maker {
	m := &maker{module: module, regs: map[body]int{}}
	m.globals = m.more(code.Words(module))
	for thread, first := range module.Threads {
		m.reach = append(m.reach, calls.From(module, first))
		for _, fn := range m.reach[thread] {
			f := module.Funcs[fn]
			m.regs[body{thread, fn}] = m.more(f.Regs + f.Result)
		}
	}
	for thread, fns := range m.reach {
		for _, fn := range fns {
			m.body(body{thread, fn})
		}
	}
	return m
}

// reg: the variable of a register.
func (m *maker) reg(of body, number int) int { return m.regs[of] + number }

// result: the variable of a word of what a body gives.
func (m *maker) result(of body, number int) int {
	return m.reg(of, m.module.Funcs[of.fn].Regs+number)
}

// body adds what a body's operations do.
func (m *maker) body(in body) {
	for number, o := range m.module.Funcs[in.fn].Code {
		if o.Kind == api.ONew || o.Kind == api.OMake {
			m.sites = append(m.sites, api.Site{Thread: in.thread, Func: in.fn, Op: number})
		}
		m.add(in, o)
	}
}

// add adds what an operation does.
func (m *maker) add(in body, o api.Op) {
	reg := func(number int) int { return m.reg(in, number) }
	switch o.Kind {
	case api.ONew, api.OMake:
		m.site(reg(o.A))
	case api.OMove:
		m.flow(reg(o.B), reg(o.A))
	case api.OCut:
		m.flow(reg(o.C), reg(o.A))
	case api.OLoad:
		m.flow(m.globals+o.B, reg(o.A))
	case api.OStore:
		m.flow(reg(o.B), m.globals+o.A)
	case api.OGet:
		m.views = append(m.views, view{of: reg(o.B), word: o.C, other: reg(o.A)})
	case api.OPut:
		m.views = append(m.views, view{of: reg(o.A), word: o.B, stores: true, other: reg(o.C)})
	case api.OCall:
		m.call(in, body{in.thread, o.A}, o)
	case api.OReturn:
		for i, r := range o.Args {
			m.flow(reg(r), m.result(in, i))
		}
	}
}

// call adds a call of one body from another. What is given goes by variables of its own, since calls and returns together are far fewer than their pairs.
func (m *maker) call(from, to body, o api.Op) {
	for i, r := range o.Args {
		m.flow(m.reg(from, r), m.reg(to, i))
	}
	for i := range o.K {
		m.flow(m.result(to, i), m.reg(from, o.B+i))
	}
}
