// Package lattice is layer 1: see shared/doc/01-lattice.md.
package lattice

import (
	"slices"

	"portcullis/api"
)

// set is a set of levels, a bit each.
type set uint

func (s set) has(level int) bool { return s>>level&1 == 1 }

// Order is a lattice of levels: of each level those that it is at most (up), and those that are at most it (down). A nil one answers as one without levels would, since layers above may be handed it.
type Order struct{ up, down []set }

// New: the lattice of edges.
func New(n int, edges ...[2]int) (*Order, api.Errno) {
	if n < 1 || n > api.MaxLevels {
		return nil, api.ErrMany
	}
	wrong := func(e [2]int) bool { return min(e[0], e[1]) < 0 || max(e[0], e[1]) >= n }
	if slices.ContainsFunc(edges, wrong) {
		return nil, api.ErrLevel
	}
	up := reach(n, edges)
	o := &Order{up, turned(up)}
	if !o.isLattice() {
		return nil, api.ErrOrder
	}
	return o, api.OK
}

// reach: of each level those that edges lead to from it, and itself.
func reach(n int, edges [][2]int) []set {
	up := make([]set, n)
	for level := range up {
		up[level] = 1 << level
	}
	for _, e := range edges {
		up[e[0]] |= 1 << e[1]
	}
	// Once a level has been the middle, every path through it is known.
	for middle := range up {
		for level := range up {
			if up[level].has(middle) {
				up[level] |= up[middle]
			}
		}
	}
	return up
}

// turned: of each level those in whose sets it is.
func turned(sets []set) []set {
	other := make([]set, len(sets))
	for level, s := range sets {
		for to := range other {
			if s.has(to) {
				other[to] |= 1 << level
			}
		}
	}
	return other
}

func (o *Order) isLattice() bool {
	for a := range o.up {
		for b := range o.up {
			_, join := shared(o.up, a, b)
			_, meet := shared(o.down, a, b)
			if !join || !meet || a != b && o.Most(a, b) && o.Most(b, a) {
				return false
			}
		}
	}
	return true
}

// shared: the level whose set is what the sets of all of the list have in common. That level is in its own set, so it is one of those that they share, and all the others lie beyond it: with the sets up it is the join, with the sets down the meet.
func shared(sets []set, list ...int) (int, bool) {
	common := set(1)<<len(sets) - 1
	for _, level := range list {
		if level >= 0 && level < len(sets) {
			common &= sets[level]
		}
	}
	at := slices.Index(sets, common)
	return max(at, 0), at >= 0
}

// Size: how many levels.
func (o *Order) Size() int {
	if o == nil {
		return 0
	}
	return len(o.up)
}

// Most: is a at most b?
func (o *Order) Most(a, b int) bool {
	return min(a, b) >= 0 && max(a, b) < o.Size() && o.up[a].has(b)
}

// Join: the least level above all.
func (o *Order) Join(list ...int) int {
	if o == nil {
		return 0
	}
	level, _ := shared(o.up, list...)
	return level
}

// Meet: the greatest level below all.
func (o *Order) Meet(list ...int) int {
	if o == nil {
		return 0
	}
	level, _ := shared(o.down, list...)
	return level
}

// Bottom: the level below all.
func (o *Order) Bottom() int { return o.Join() }

// Top: the level above all.
func (o *Order) Top() int { return o.Meet() }

// Height: how many levels follow one another.
func (o *Order) Height() int {
	heights := make([]int, o.Size())
	height := 0
	for _, level := range o.Chain() {
		// The levels that come later still have the height 0, and so has this one.
		for below := range heights {
			if o.Most(below, level) {
				heights[level] = max(heights[level], heights[below])
			}
		}
		heights[level]++
		height = max(height, heights[level])
	}
	return height
}

// Chain: the levels, the lower ones first.
func (o *Order) Chain() []int {
	chain := make([]int, 0, o.Size())
	done := set(0)
	for range o.Size() {
		for level, down := range o.down {
			if down&^done == 1<<level {
				chain = append(chain, level)
				done |= 1 << level
				break
			}
		}
	}
	return chain
}
