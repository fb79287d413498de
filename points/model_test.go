package points_test

import (
	"slices"

	"portcullis/api"
)

// spot is what may point to something: a register of a thread's function, a global word, or a site's word.
type spot struct {
	kind    string
	a, b, c int
}

// model is the chapter's words: sets that grow, rule by rule and again and again, until none does.
type model struct {
	code  api.Module
	reach []map[int]bool
	sites []api.Site
	sets  map[spot]map[int]bool
	grown bool
}

func modelOf(m api.Module) *model {
	x := &model{code: m, sets: map[spot]map[int]bool{}}
	for _, fn := range m.Threads {
		x.reach = append(x.reach, map[int]bool{fn: true})
	}
	for thread := range m.Threads {
		for range m.Funcs {
			for fn, f := range m.Funcs {
				for _, o := range f.Code {
					if x.reach[thread][fn] && o.Kind == api.OCall {
						x.reach[thread][o.A] = true
					}
				}
			}
		}
	}
	x.each(func(thread, fn, number int, o api.Op) {
		if o.Kind == api.ONew || o.Kind == api.OMake {
			x.sites = append(x.sites, api.Site{Thread: thread, Func: fn, Op: number})
		}
	})
	for x.grown = true; x.grown; {
		x.grown = false
		x.each(x.rule)
	}
	return x
}

// each tells the operations of all functions that threads may call.
func (x *model) each(tell func(thread, fn, number int, o api.Op)) {
	for thread := range x.code.Threads {
		for fn, f := range x.code.Funcs {
			for number, o := range f.Code {
				if x.reach[thread][fn] {
					tell(thread, fn, number, o)
				}
			}
		}
	}
}

// put puts a site into a set.
func (x *model) put(to spot, site int) {
	if x.sets[to] == nil {
		x.sets[to] = map[int]bool{}
	}
	if !x.sets[to][site] {
		x.sets[to][site], x.grown = true, true
	}
}

// pour puts all of one set into another.
func (x *model) pour(from, to spot) {
	for _, site := range x.list(from) {
		x.put(to, site)
	}
}

// list: a set's sites, rising.
func (x *model) list(s spot) []int {
	var list []int
	for site := range x.sets[s] {
		list = append(list, site)
	}
	slices.Sort(list)
	return list
}

// rule: what an operation says of the sets.
func (x *model) rule(thread, fn, number int, o api.Op) {
	reg := func(n int) spot { return spot{"register", thread, fn, n} }
	global := func(n int) spot { return spot{"global", n, 0, 0} }
	switch o.Kind {
	case api.ONew, api.OMake:
		x.put(reg(o.A), slices.Index(x.sites, api.Site{Thread: thread, Func: fn, Op: number}))
	case api.OMove:
		x.pour(reg(o.B), reg(o.A))
	case api.OCut:
		x.pour(reg(o.C), reg(o.A))
	case api.OLoad:
		x.pour(global(o.B), reg(o.A))
	case api.OStore:
		x.pour(reg(o.B), global(o.A))
	case api.OGet:
		for _, site := range x.list(reg(o.B)) {
			x.pour(spot{"word", site, o.C, 0}, reg(o.A))
		}
	case api.OPut:
		for _, site := range x.list(reg(o.A)) {
			x.pour(reg(o.C), spot{"word", site, o.B, 0})
		}
	case api.OCall:
		for place, r := range o.Args {
			x.pour(reg(r), spot{"register", thread, o.A, place})
		}
		for _, back := range x.code.Funcs[o.A].Code {
			if back.Kind == api.OReturn && o.B >= 0 {
				for place, r := range back.Args {
					x.pour(spot{"register", thread, o.A, r}, reg(o.B+place))
				}
			}
		}
	}
}

// points: the model's answer.
func (x *model) points() api.Points {
	p := api.Points{Sites: x.sites}
	for thread, reach := range x.reach {
		p.Reach = append(p.Reach, nil)
		p.Regs = append(p.Regs, make([][][]int, len(x.code.Funcs)))
		for fn, f := range x.code.Funcs {
			if reach[fn] {
				p.Reach[thread] = append(p.Reach[thread], fn)
				for n := range f.Regs {
					p.Regs[thread][fn] = append(p.Regs[thread][fn], x.list(spot{"register", thread, fn, n}))
				}
			}
		}
	}
	for _, g := range x.code.Globals {
		for range g.Size {
			p.Globals = append(p.Globals, x.list(spot{"global", len(p.Globals), 0, 0}))
		}
	}
	for site := range x.sites {
		var words [][]int
		for n := range 16 {
			words = append(words, x.list(spot{"word", site, n, 0}))
		}
		p.Fields = append(p.Fields, words)
	}
	return p
}
