package lattice_test

import (
	"math"
	"slices"
	"testing"

	"portcullis/api"
	"portcullis/lattice"
)

type edges = [][2]int

var wild = []int{math.MinInt, math.MinInt + 1, -65, -64, -9, -8, -1, 8, 9, 63, 64, 65, math.MaxInt - 1, math.MaxInt}

// model is an order told by the chapter's words alone: most[a][b] is whether a is at most b.
type model struct {
	n    int
	most [api.MaxLevels][api.MaxLevels]bool
}

func modelOf(n int, list edges) model {
	m := model{n: n}
	for a := range n {
		m.walk(a, a, list)
	}
	return m
}

func (m *model) walk(from, at int, list edges) {
	if m.most[from][at] {
		return
	}
	m.most[from][at] = true
	for _, e := range list {
		if e[0] == at {
			m.walk(from, e[1], list)
		}
	}
}

// join: the level that all of the list are at most, and that is at most every other such one; -1, if there is none.
func (m model) join(list ...int) int {
	above := func(level int) bool {
		return !slices.ContainsFunc(list, func(x int) bool { return !m.most[x][level] })
	}
	for level := range m.n {
		least := above(level)
		for other := range m.n {
			least = least && (!above(other) || m.most[level][other])
		}
		if least {
			return level
		}
	}
	return -1
}

func (m model) turned() model {
	t := model{n: m.n}
	for a := range m.n {
		for b := range m.n {
			t.most[a][b] = m.most[b][a]
		}
	}
	return t
}

func (m model) meet(list ...int) int { return m.turned().join(list...) }

func (m model) isLattice() bool {
	for a := range m.n {
		for b := range m.n {
			if a != b && m.most[a][b] && m.most[b][a] || m.join(a, b) < 0 || m.meet(a, b) < 0 {
				return false
			}
		}
	}
	return true
}

// heightFrom: how many levels follow one another, this one the first.
func (m model) heightFrom(level int) int {
	best := 0
	for next := range m.n {
		if next != level && m.most[level][next] {
			best = max(best, m.heightFrom(next))
		}
	}
	return best + 1
}

func (m model) height() int {
	best := 0
	for level := range m.n {
		best = max(best, m.heightFrom(level))
	}
	return best
}

func (m model) chain() []int {
	var out []int
	for len(out) < m.n {
		for level := range m.n {
			waits := slices.Contains(out, level)
			for below := range m.n {
				waits = waits || below != level && m.most[below][level] && !slices.Contains(out, below)
			}
			if !waits {
				out = append(out, level)
				break
			}
		}
	}
	return out
}

// same holds New's answer against the model, with all of its methods.
func same(t *testing.T, n int, list edges) {
	t.Helper()
	o, e := lattice.New(n, list...)
	m := modelOf(n, list)
	if !m.isLattice() {
		if o != nil || e != api.ErrOrder {
			t.Fatal(n, list, "is no lattice, but:", o, e)
		}
		return
	}
	if o == nil || e != api.OK {
		t.Fatal(n, list, "is a lattice, but:", o, e)
	}
	if o.Size() != n || o.Bottom() != m.join() || o.Top() != m.meet() || o.Height() != m.height() || !slices.Equal(o.Chain(), m.chain()) {
		t.Fatal(n, list, o.Size(), o.Bottom(), o.Top(), o.Height(), o.Chain())
	}
	for a := range n {
		for b := range n {
			if o.Most(a, b) != m.most[a][b] || o.Join(a, b) != m.join(a, b) || o.Meet(a, b) != m.meet(a, b) {
				t.Fatal(n, list, a, b, o.Most(a, b), o.Join(a, b), o.Meet(a, b))
			}
		}
	}
	for bits := range 1 << n {
		var some []int
		for level := range n {
			if bits>>level&1 == 1 {
				some = append(some, level)
			}
		}
		if o.Join(some...) != m.join(some...) || o.Meet(some...) != m.meet(some...) {
			t.Fatal(n, list, some, o.Join(some...), o.Meet(some...))
		}
	}
}

// P1.1, P1.2: every order of up to three levels and every one of four without edges from a level to itself.
func TestAllSmallOrders(t *testing.T) {
	for n := 1; n <= 4; n++ {
		var pairs edges
		for a := range n {
			for b := range n {
				if a != b || n < 4 {
					pairs = append(pairs, [2]int{a, b})
				}
			}
		}
		for bits := range 1 << len(pairs) {
			same(t, n, picked(pairs, bits))
		}
	}
}

// P1.1, P1.2: every order of five levels without a ring, its levels numbered in several ways.
func TestFiveLevels(t *testing.T) {
	for _, number := range [][]int{{0, 1, 2, 3, 4}, {4, 3, 2, 1, 0}, {2, 4, 0, 3, 1}} {
		var pairs edges
		for b := range 5 {
			for a := range b {
				pairs = append(pairs, [2]int{number[a], number[b]})
			}
		}
		for bits := range 1 << len(pairs) {
			same(t, 5, picked(pairs, bits))
		}
	}
}

func picked(pairs edges, bits int) edges {
	var out edges
	for i, p := range pairs {
		if bits>>i&1 == 1 {
			out = append(out, p)
		}
	}
	return out
}

// numbered: the same edges, each level by another number, the edges the other way about.
func numbered(list edges, number []int) edges {
	var out edges
	for _, e := range slices.Backward(list) {
		out = append(out, [2]int{number[e[0]], number[e[1]]})
	}
	return out
}

var (
	cube  = edges{{0, 1}, {0, 2}, {0, 4}, {1, 3}, {1, 5}, {2, 3}, {2, 6}, {4, 5}, {4, 6}, {3, 7}, {5, 7}, {6, 7}}
	line  = edges{{0, 1}, {1, 2}, {2, 3}, {3, 4}, {4, 5}, {5, 6}, {6, 7}}
	broad = edges{{0, 1}, {0, 2}, {0, 3}, {0, 4}, {0, 5}, {0, 6}, {1, 7}, {2, 7}, {3, 7}, {4, 7}, {5, 7}, {6, 7}}
	bent  = edges{{0, 1}, {1, 2}, {2, 3}, {3, 4}, {4, 7}, {0, 5}, {5, 6}, {6, 7}}
	cross = edges{{0, 1}, {1, 2}, {1, 3}, {2, 4}, {2, 5}, {3, 4}, {3, 5}, {4, 6}, {5, 6}, {6, 7}}
)

// P1.1, P1.2: orders of MaxLevels levels.
func TestEightLevels(t *testing.T) {
	for _, list := range []edges{cube, line, broad, bent, cross, nil} {
		for _, number := range [][]int{{0, 1, 2, 3, 4, 5, 6, 7}, {7, 6, 5, 4, 3, 2, 1, 0}, {3, 0, 7, 5, 1, 6, 2, 4}, {5, 7, 1, 0, 6, 3, 4, 2}} {
			same(t, api.MaxLevels, numbered(list, number))
		}
		for left := range list {
			same(t, api.MaxLevels, slices.Delete(slices.Clone(list), left, left+1))
		}
	}
	for _, c := range []struct {
		list   edges
		height int
		chain  []int
	}{
		{cube, 4, []int{0, 1, 2, 3, 4, 5, 6, 7}},
		{line, 8, []int{0, 1, 2, 3, 4, 5, 6, 7}},
		{broad, 3, []int{0, 1, 2, 3, 4, 5, 6, 7}},
		{bent, 6, []int{0, 1, 2, 3, 4, 5, 6, 7}},
		{numbered(bent, []int{7, 6, 5, 4, 3, 2, 1, 0}), 6, []int{7, 2, 1, 6, 5, 4, 3, 0}},
		{numbered(cube, []int{7, 6, 5, 4, 3, 2, 1, 0}), 4, []int{7, 3, 5, 1, 6, 2, 4, 0}},
	} {
		o, e := lattice.New(api.MaxLevels, c.list...)
		if e != api.OK || o.Height() != c.height || !slices.Equal(o.Chain(), c.chain) {
			t.Error(c.list, e, o.Height(), o.Chain())
		}
	}
}

// P1.1: which error comes ahead of which, and that there is no order with one.
func TestNewErrors(t *testing.T) {
	outside, ring := [2]int{0, 99}, [2]int{1, 0}
	for i, c := range []struct {
		n    int
		list edges
		want api.Errno
	}{
		{0, nil, api.ErrMany},
		{-1, nil, api.ErrMany},
		{math.MinInt, nil, api.ErrMany},
		{math.MaxInt, nil, api.ErrMany},
		{api.MaxLevels + 1, line, api.ErrMany},
		{0, edges{outside}, api.ErrMany},
		{9, edges{outside, ring, {0, 1}}, api.ErrMany},
		{1, edges{{0, 1}}, api.ErrLevel},
		{2, edges{{0, 1}, outside}, api.ErrLevel},
		{2, edges{outside, {0, 1}}, api.ErrLevel},
		{2, edges{{0, 1}, ring, outside}, api.ErrLevel},
		{8, append(slices.Clone(line), [2]int{7, 8}), api.ErrLevel},
		{8, append(slices.Clone(line), [2]int{8, 0}), api.ErrLevel},
		{8, append(slices.Clone(line), [2]int{-1, 0}), api.ErrLevel},
		{8, append(slices.Clone(line), [2]int{7, 0}), api.ErrOrder},
		{2, edges{}, api.ErrOrder},
		{2, edges{{0, 1}, ring}, api.ErrOrder},
		{3, edges{{0, 1}, {1, 2}, {2, 0}}, api.ErrOrder},
		{3, edges{{0, 1}, {0, 2}}, api.ErrOrder},
		{3, edges{{0, 2}, {1, 2}}, api.ErrOrder},
		{2, edges{{0, 0}, {1, 1}}, api.ErrOrder},
		{8, cross, api.ErrOrder},
	} {
		if o, e := lattice.New(c.n, c.list...); o != nil || e != c.want {
			t.Error(i, o, e)
		}
	}
	for _, w := range wild {
		for _, e := range [][2]int{{w, 0}, {0, w}, {w, w}} {
			if o, err := lattice.New(3, [2]int{0, 1}, e, [2]int{1, 2}); o != nil || err != api.ErrLevel {
				t.Error(e, o, err)
			}
		}
	}
}

// P1.1: edges that are told twice, that others make needless, or that lead from a level to itself.
func TestNeedlessEdges(t *testing.T) {
	plain, _ := lattice.New(3, [2]int{2, 0}, [2]int{0, 1})
	more, e := lattice.New(3, [2]int{2, 1}, [2]int{0, 1}, [2]int{2, 0}, [2]int{0, 1}, [2]int{2, 2}, [2]int{0, 0})
	if e != api.OK || !slices.Equal(more.Chain(), plain.Chain()) || more.Height() != 3 || more.Bottom() != 2 || more.Top() != 1 || more.Join(0, 2) != 0 {
		t.Error(e, more.Chain(), more.Height())
	}
	one, e := lattice.New(1, slices.Repeat(edges{{0, 0}}, 100_000)...)
	if e != api.OK || one.Height() != 1 || one.Size() != 1 || one.Bottom() != 0 || one.Top() != 0 || !slices.Equal(one.Chain(), []int{0}) {
		t.Error(e)
	}
}

// P1.2 and the rule that every call takes any arguments: numbers that are no level.
func TestNoLevels(t *testing.T) {
	o, _ := lattice.New(4, [2]int{0, 1}, [2]int{0, 2}, [2]int{1, 3}, [2]int{2, 3})
	for _, w := range append([]int{4, 5, 7}, wild...) {
		if o.Most(w, 0) || o.Most(0, w) || o.Most(w, 3) || o.Most(w, w) {
			t.Error("Most", w)
		}
		if o.Join(w) != 0 || o.Meet(w) != 3 || o.Join(w, 1, w) != 1 || o.Meet(w, 1, w) != 1 || o.Join(1, w, 2) != 3 || o.Meet(1, w, 2) != 0 {
			t.Error("Join, Meet", w)
		}
	}
	if o.Join() != 0 || o.Meet() != 3 || o.Join([]int{}...) != 0 || o.Join(wild...) != 0 || o.Meet(wild...) != 3 {
		t.Error("none")
	}
	if o.Join(2, 2, 2) != 2 || o.Meet(slices.Repeat([]int{1, 3}, 1000)...) != 1 {
		t.Error("again and again")
	}
}

// P1: an order that isn't there has no levels, and no call of it panics.
func TestNoOrder(t *testing.T) {
	for _, o := range []*lattice.Order{nil, {}} {
		if o.Size() != 0 || o.Most(0, 0) || o.Join(0) != 0 || o.Meet(0) != 0 || o.Join() != 0 || o.Bottom() != 0 || o.Top() != 0 || o.Height() != 0 || len(o.Chain()) != 0 {
			t.Error(o)
		}
	}
}

// P1.3 and P2: nothing that is handed in is changed or kept, what is answered is new, and a call hangs on no other one.
func TestApart(t *testing.T) {
	room := append(make(edges, 0, 32), cube...)
	o, _ := lattice.New(8, room...)
	if !slices.Equal(room, cube) || slices.ContainsFunc(room[len(room):cap(room)], func(e [2]int) bool { return e != [2]int{} }) {
		t.Error("New has changed its edges")
	}
	list := append(make([]int, 0, 8), 6, -1, 5)
	if o.Join(list...) != 7 || o.Meet(list...) != 4 || !slices.Equal(list[:8], []int{6, -1, 5, 0, 0, 0, 0, 0}) {
		t.Error("Join or Meet", list[:8])
	}
	clear(room[:cap(room)])
	other, _ := lattice.New(8, line...)
	chain := o.Chain()
	clear(chain[:cap(chain)])
	other.Chain()[0] = 5
	if !slices.Equal(o.Chain(), []int{0, 1, 2, 3, 4, 5, 6, 7}) || o.Height() != 4 || o.Most(1, 6) || o.Join(1, 2) != 3 || other.Join(1, 2) != 2 || other.Chain()[0] != 0 || other.Height() != 8 {
		t.Error("an order hangs on something else")
	}
}
