package points_test

import (
	"fmt"
	"slices"
	"strings"
	"testing"

	"portcullis/api"
	"portcullis/points"
	"portcullis/sample"
)

// regs: so many registers has each function of codeOf.
const regs = 6

// codeOf: code with five global words, whose threads run the functions of these numbers, and whose functions are told as sample.Funcs tells them.
func codeOf(threads []int, funcs ...string) api.Module {
	return api.Module{
		Globals: []api.Sized{{Size: 1}, {Size: 2}, {Size: 2}},
		Structs: []api.Sized{{Size: 3}, {Size: 0}, {Size: 16}},
		Chans:   []api.Sized{{Size: 1}},
		Locks:   make([]string, 2), Inputs: make([]string, 2), Sinks: make([]string, 2), Hatches: make([]string, 2),
		Threads: threads,
		Funcs:   sample.Funcs(regs, funcs...),
	}
}

// listed: numbers, parted by "+".
func listed(list []int) string {
	return strings.ReplaceAll(strings.Trim(fmt.Sprint(list), "[]"), " ", "+")
}

// told: all that points to something: a register as its thread, function and number, a global word behind a "g", a site's word behind an "s"; and ahead of that the sites, each its thread, function and operation, parted by ".".
func told(p api.Points) string {
	var list []string
	for _, s := range p.Sites {
		list = append(list, fmt.Sprint(s.Thread, ".", s.Func, ".", s.Op))
	}
	list = append(list, "|")
	tell := func(sites []int, parts ...any) {
		if len(sites) > 0 {
			list = append(list, fmt.Sprint(parts...)+"="+listed(sites))
		}
	}
	for thread, funcs := range p.Regs {
		for fn, regs := range funcs {
			for n, sites := range regs {
				tell(sites, thread, ".", fn, ".", n)
			}
		}
	}
	for n, sites := range p.Globals {
		tell(sites, "g", n)
	}
	for site, words := range p.Fields {
		for n, sites := range words {
			tell(sites, "s", site, ".", n)
		}
	}
	return strings.Trim(strings.Join(list, " "), " ")
}

// find: what is found of code that is right; every list in it is as long as it must be.
func find(t *testing.T, m api.Module) api.Points {
	t.Helper()
	p, e := points.Find(m)
	if e != api.OK {
		t.Fatalf("%d: %+v", e, m)
	}
	words := 0
	for _, g := range m.Globals {
		words += g.Size
	}
	if len(p.Globals) != words || len(p.Reach) != len(m.Threads) || len(p.Regs) != len(m.Threads) || len(p.Fields) != len(p.Sites) {
		t.Fatalf("%d %d %d %d: %+v", len(p.Globals), len(p.Reach), len(p.Regs), len(p.Fields), m)
	}
	for thread, funcs := range p.Regs {
		if len(funcs) != len(m.Funcs) {
			t.Fatalf("%d functions: %+v", len(funcs), m)
		}
		for fn, regs := range funcs {
			if called := slices.Contains(p.Reach[thread], fn); called && len(regs) != m.Funcs[fn].Regs || !called && len(regs) > 0 {
				t.Fatalf("%d registers: %+v", len(regs), m)
			}
		}
	}
	for _, words := range p.Fields {
		if len(words) != 16 {
			t.Fatalf("%d words: %+v", len(words), m)
		}
	}
	return p
}

// same: are two answers the same, whatever lists without elements are?
func same(a, b api.Points) bool {
	sets := func(a, b [][]int) bool { return slices.EqualFunc(a, b, slices.Equal) }
	funcs := func(a, b [][][]int) bool { return slices.EqualFunc(a, b, sets) }
	return slices.Equal(a.Sites, b.Sites) && sets(a.Reach, b.Reach) && slices.EqualFunc(a.Regs, b.Regs, funcs) && sets(a.Globals, b.Globals) && funcs(a.Fields, b.Fields)
}
