package order_test

import (
	"cmp"
	"slices"
	"testing"

	"portcullis/api"
	"portcullis/held"
)

// model asks of each edge there could be whether it is one, and goes from edge to edge to tell whether a lock leads to another.
type model struct {
	code api.Module
	held api.Held
}

func modelOf(t *testing.T, m api.Module) model {
	t.Helper()
	h, e := held.Find(m)
	if e != api.OK {
		t.Fatal(e)
	}
	return model{m, h}
}

// some: is there an operation of this kind with this lock to which a thread comes, and of which this holds?
func (x model) some(kind, lock int, is func(o api.Op, must, may int) bool) bool {
	for thread := range x.code.Threads {
		for fn := range x.code.Funcs {
			for op, must := range x.held.Must[thread][fn] {
				o := x.code.Funcs[fn].Code[op]
				if must != -1 && o.Kind == kind && o.A == lock && is(o, must, x.held.May[thread][fn][op]) {
					return true
				}
			}
		}
	}
	return false
}

// find: all edges.
func (x model) find() [][2]int {
	var edges [][2]int
	for from := range x.code.Locks {
		for to := range x.code.Locks {
			if x.some(api.OLock, to, func(_ api.Op, _, may int) bool { return may&(1<<from) != 0 }) {
				edges = append(edges, [2]int{from, to})
			}
		}
	}
	return edges
}

// check: what is wrong, lock by lock.
func (x model) check() []api.Diag {
	edges := x.find()
	var list []api.Diag
	add := func(o api.Op, code api.Errno) {
		wrong := api.Diag{At: o.At, Code: code, Name: x.code.Locks[o.A]}
		if !slices.Contains(list, wrong) {
			list = append(list, wrong)
		}
	}
	for lock := range x.code.Locks {
		x.some(api.OUnlock, lock, func(o api.Op, must, _ int) bool {
			if must&(1<<lock) == 0 {
				add(o, api.ErrHeld)
			}
			return false
		})
		x.some(api.OLock, lock, func(o api.Op, _, may int) bool {
			for other := range x.code.Locks {
				if may&(1<<other) != 0 && leads(edges, lock, other) {
					add(o, api.ErrCycle)
				}
			}
			return false
		})
	}
	slices.SortFunc(list, func(a, b api.Diag) int {
		return cmp.Or(cmp.Compare(a.At, b.At), cmp.Compare(a.Code, b.Code), cmp.Compare(a.Name, b.Name))
	})
	return list
}

// leads: does a lock lead to another by edges, or is it the other one?
func leads(edges [][2]int, from, to int) bool {
	met := map[int]bool{}
	var walk func(lock int) bool
	walk = func(lock int) bool {
		if lock == to {
			return true
		}
		met[lock] = true
		for _, e := range edges {
			if e[0] == lock && !met[e[1]] && walk(e[1]) {
				return true
			}
		}
		return false
	}
	return walk(from)
}

// ranks: of each of so many locks its rank, and whether the edges are in order.
func ranks(locks int, edges [][2]int) ([]int, bool) {
	for _, e := range edges {
		if leads(edges, e[1], e[0]) {
			return nil, false
		}
	}
	var rank func(lock int) int
	rank = func(lock int) int {
		most := 0
		for _, e := range edges {
			if e[1] == lock {
				most = max(most, 1+rank(e[0]))
			}
		}
		return most
	}
	var list []int
	for lock := range locks {
		list = append(list, rank(lock))
	}
	return list, true
}
