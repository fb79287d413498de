package order

import (
	"cmp"
	"maps"
	"slices"

	"portcullis/api"
)

// graph is all edges, each from a lock that may be held to one that is taken then.
type graph map[[2]int]struct{}

// graphOf: the edges of code.
func graphOf(m api.Module, h api.Held) graph {
	g := graph{}
	for s := range stops(m, h) {
		for lock := range m.Locks {
			if s.Kind == api.OLock && has(s.may, lock) {
				g[[2]int{lock, s.A}] = struct{}{}
			}
		}
	}
	return g
}

// list: rising, so that nothing hangs on how a map is gone through.
func (g graph) list() [][2]int {
	return slices.SortedFunc(maps.Keys(g), func(a, b [2]int) int {
		return cmp.Or(cmp.Compare(a[0], b[0]), cmp.Compare(a[1], b[1]))
	})
}

// leads: of each lock those to which it leads, a bit each.
func (g graph) leads() [api.MaxLocks]int {
	var leads [api.MaxLocks]int
	for lock := range leads {
		leads[lock] = 1 << lock
	}
	// A shortest way has fewer edges than there are locks; each round goes an edge further, at least.
	for range leads {
		for e := range g {
			leads[e[0]] |= leads[e[1]]
		}
	}
	return leads
}

// ordered: are the edges in order?
func (g graph) ordered() bool {
	leads := g.leads()
	for e := range g {
		if has(leads[e[1]], e[0]) {
			return false
		}
	}
	return true
}

// ranks: of each of so many locks its rank, where the edges are in order.
func (g graph) ranks(locks int) []int {
	ranks := make([]int, locks)
	// The longest way has fewer edges than there are locks.
	for range locks {
		for e := range g {
			ranks[e[1]] = max(ranks[e[1]], ranks[e[0]]+1)
		}
	}
	return ranks
}
