package latch_test

import (
	"math"
	"math/rand/v2"
	"slices"
	"testing"

	"portcullis/latch"
)

// wild: numbers that are no lock, and of which those from 0 on may be threads.
var wild = []int{math.MinInt, math.MinInt + 1, -1 << 32, -9, -8, -2, -1, 8, 9, 64, 1 << 16, 1 << 32, 1<<32 + 1, 1 << 62, math.MaxInt - 1, math.MaxInt}

// model is a table told by the chapter's words alone: how many locks there are, and of each that is held its holder.
type model struct {
	locks int
	by    map[int]int
}

func modelOf(locks int) *model {
	return &model{max(0, min(8, locks)), map[int]int{}}
}

func (m *model) take(lock, thread int) bool {
	if _, held := m.by[lock]; lock < 0 || lock >= m.locks || thread < 0 || held {
		return false
	}
	m.by[lock] = thread
	return true
}

func (m *model) drop(lock, thread int) bool {
	holder, held := m.by[lock]
	if !held || holder != thread {
		return false
	}
	delete(m.by, lock)
	return true
}

func (m *model) holder(lock int) int {
	if holder, held := m.by[lock]; held {
		return holder
	}
	return -1
}

func (m *model) held(thread int) []int {
	var held []int
	for lock := range m.locks {
		if holder, is := m.by[lock]; is && holder == thread {
			held = append(held, lock)
		}
	}
	return held
}

func (m *model) all() []int {
	var all []int
	for lock := range m.locks {
		all = append(all, m.holder(lock))
	}
	return all
}

// waitsFor: does a thread wait for a lock that another one, or itself, holds?
func (m *model) waitsFor(waits []int, thread, other int) bool {
	if thread >= len(waits) {
		return false
	}
	holder, held := m.by[waits[thread]]
	return held && holder == other
}

// rows: all rows of numbers below n, no number twice, whose first one is the least.
func rows(n int) [][]int {
	var all [][]int
	var more func(row []int)
	more = func(row []int) {
		all = append(all, slices.Clone(row))
		for next := row[0] + 1; next < n; next++ {
			if !slices.Contains(row, next) {
				more(append(slices.Clone(row), next))
			}
		}
	}
	for first := range n {
		more([]int{first})
	}
	return all
}

// ring: the first row that is a ring, by the words of P14.2; rows come by their rising first ones.
func (m *model) ring(rows [][]int, waits []int) []int {
	isRing := func(row []int) bool {
		for i, thread := range row {
			if !m.waitsFor(waits, thread, row[(i+1)%len(row)]) {
				return false
			}
		}
		return true
	}
	if at := slices.IndexFunc(rows, isRing); at >= 0 {
		return rows[at]
	}
	return nil
}

// take lets a thread take a lock in both, and holds the answers against each other.
func take(t *testing.T, x *latch.Table, m *model, lock, thread int) {
	t.Helper()
	if ok, want := x.Take(lock, thread), m.take(lock, thread); ok != want {
		t.Fatalf("Take %d %d: %v, want %v", lock, thread, ok, want)
	}
}

// drop lets a thread give a lock back in both, and holds the answers against each other.
func drop(t *testing.T, x *latch.Table, m *model, lock, thread int) {
	t.Helper()
	if ok, want := x.Drop(lock, thread), m.drop(lock, thread); ok != want {
		t.Fatalf("Drop %d %d: %v, want %v", lock, thread, ok, want)
	}
}

// told holds what a table answers of locks and threads against the model.
func told(t *testing.T, x *latch.Table, m *model) {
	t.Helper()
	at := func(n int) {
		if got, want := x.Holder(n), m.holder(n); got != want {
			t.Fatalf("Holder %d: %d, want %d", n, got, want)
		}
		if got, want := x.Held(n), m.held(n); !slices.Equal(got, want) {
			t.Fatalf("Held %d: %v, want %v", n, got, want)
		}
	}
	for n := -3; n < 12; n++ {
		at(n)
	}
	for _, n := range wild {
		at(n)
	}
	if got, want := x.All(), m.all(); !slices.Equal(got, want) {
		t.Fatalf("All: %v, want %v", got, want)
	}
}

// tableOf: a table, and its model, whose locks are held by those that are told (-1: nobody).
func tableOf(t *testing.T, holders ...int) (*latch.Table, *model) {
	t.Helper()
	x, m := latch.New(len(holders)), modelOf(len(holders))
	for lock, thread := range holders {
		take(t, x, m, lock, thread)
	}
	return x, m
}

// each calls with every row of so many numbers from -1 to most.
func each(length, most int, call func(row []int)) {
	row := slices.Repeat([]int{-1}, length)
	for {
		call(row)
		at := slices.IndexFunc(row, func(n int) bool { return n < most })
		if at < 0 {
			return
		}
		for i := range at {
			row[i] = -1
		}
		row[at]++
	}
}

// P14.2: the chapter's example.
func TestExample(t *testing.T) {
	x := latch.New(2)
	if !x.Take(1, 0) || !x.Take(0, 1) {
		t.Error("nobody holds them")
	}
	if ring := x.Ring(0, 1); !slices.Equal(ring, []int{0, 1}) {
		t.Error(ring)
	}
}

// P14.1: so many locks, none below 0 and eight at most, held by nobody; each can be taken, and no other.
func TestNew(t *testing.T) {
	for _, n := range append([]int{-7, 0, 1, 2, 3, 4, 5, 6, 7, 63, 4096}, wild...) {
		x, m := latch.New(n), modelOf(n)
		told(t, x, m)
		if len(x.All()) != m.locks || slices.Max(append(x.All(), -1)) != -1 {
			t.Errorf("New %d: %v", n, x.All())
		}
		if ring := x.Ring(0, 1, 2, 3, 4, 5, 6, 7, 8); len(ring) != 0 {
			t.Errorf("New %d: nobody holds anything, and the ring is %v", n, ring)
		}
		for lock := -2; lock < 11; lock++ {
			if ok, want := x.Take(lock, 3), lock >= 0 && lock < n && lock < 8; ok != want || m.take(lock, 3) != want {
				t.Errorf("New %d: Take %d: %v", n, lock, ok)
			}
			told(t, x, m)
		}
	}
}

// P14.1: a lock that is held is taken by nobody, by its holder neither; it is given back by its holder alone, and can be taken then.
func TestByHand(t *testing.T) {
	x, m := latch.New(2), modelOf(2)
	for _, c := range []struct {
		take         bool
		lock, thread int
		ok           bool
	}{
		{false, 0, 0, false}, {false, 0, -1, false}, {true, 0, -1, false}, {true, 0, 5, true}, {true, 0, 5, false}, {true, 0, 6, false}, {true, 0, -1, false},
		{false, 0, 6, false}, {false, 0, -1, false}, {false, 1, 5, false}, {true, 1, 5, true}, {false, 0, 5, true}, {false, 0, 5, false}, {true, 0, 6, true},
		{true, 2, 6, false}, {false, 2, 6, false}, {true, -1, 6, false}, {false, -1, 6, false}, {false, 2, -1, false}, {false, -1, -1, false}, {false, 1, 6, false}, {false, 1, 5, true},
	} {
		call, same := x.Drop, m.drop
		if c.take {
			call, same = x.Take, m.take
		}
		if ok := call(c.lock, c.thread); ok != c.ok || same(c.lock, c.thread) != c.ok {
			t.Errorf("%v: %v", c, ok)
		}
		told(t, x, m)
	}
	if x.Holder(0) != 6 || x.Holder(1) != -1 {
		t.Error(x.All())
	}
}

// P14.1: any number from 0 on may be a thread, none below it; a wrong lock or thread changes nothing.
func TestWild(t *testing.T) {
	x, m := latch.New(8), modelOf(8)
	for _, thread := range append([]int{0, 1}, wild...) {
		for _, lock := range wild {
			take(t, x, m, lock, thread)
			drop(t, x, m, lock, thread)
		}
		take(t, x, m, 7, thread)
		take(t, x, m, 0, thread)
		told(t, x, m)
		for _, other := range wild {
			drop(t, x, m, 7, other)
			take(t, x, m, 7, thread)
		}
		told(t, x, m)
		drop(t, x, m, 7, thread)
		drop(t, x, m, 0, thread)
		if thread < 0 && slices.Max(x.All()) != -1 {
			t.Errorf("thread %d holds something: %v", thread, x.All())
		}
	}
}

// P14.1: every row of five calls, of two locks and a third that isn't there, by two threads.
func TestRows(t *testing.T) {
	const kinds = 12
	each(5, kinds-2, func(row []int) {
		x, m := latch.New(2), modelOf(2)
		for _, n := range row {
			call := n + 1
			lock, thread := call/2%3, call%2
			if call < kinds/2 {
				take(t, x, m, lock, thread)
			} else {
				drop(t, x, m, lock, thread)
			}
		}
		if got, want := x.All(), m.all(); !slices.Equal(got, want) {
			t.Fatalf("row %v: %v, want %v", row, got, want)
		}
	})
}

// P14.1, P14.2: long rows of calls on any number of locks, by chance.
func TestLongRows(t *testing.T) {
	r := rand.New(rand.NewPCG(14, 1))
	few := rows(6)
	for range 200 {
		locks := r.IntN(12) - 2
		x, m := latch.New(locks), modelOf(locks)
		for range 120 {
			lock, thread := r.IntN(11)-1, r.IntN(7)-1
			if r.IntN(3) > 0 {
				take(t, x, m, lock, thread)
			} else {
				drop(t, x, m, lock, thread)
			}
			told(t, x, m)
			waits := make([]int, r.IntN(7))
			for i := range waits {
				waits[i] = r.IntN(11) - 1
			}
			if got, want := x.Ring(waits...), m.ring(few, waits); !slices.Equal(got, want) {
				t.Fatalf("Ring %v of %v: %v, want %v", waits, m.all(), got, want)
			}
		}
		told(t, x, m)
	}
}

// P14.2: cases by hand.
func TestRingByHand(t *testing.T) {
	for _, c := range []struct{ holders, waits, want []int }{
		{nil, nil, nil},
		{nil, []int{0, -1}, nil},
		{[]int{0}, nil, nil},
		{[]int{0}, []int{0}, []int{0}},    // a ring by itself
		{[]int{0}, []int{-1}, nil},        // waits for none
		{[]int{0}, []int{1}, nil},         // for no lock
		{[]int{-1}, []int{0}, nil},        // for one that nobody holds
		{[]int{1}, []int{0}, nil},         // for one of whom waits tells nothing
		{[]int{1}, []int{0, -1}, nil},     // for one that doesn't wait
		{[]int{1}, []int{0, 0}, []int{1}}, // 0 waits for a ring, and isn't in it
		{[]int{1, 0}, []int{0, 1}, []int{0, 1}},
		{[]int{0, 1}, []int{0, 1}, []int{0}}, // two rings: the one with 0
		{[]int{1, 0, 2}, []int{-1, -1, 2}, []int{2}},
		{[]int{2, 0, 1}, []int{0, 1, 2}, []int{0, 2, 1}}, // in the order of waiting, not rising
		{[]int{1, 2, 0}, []int{0, 1, 2}, []int{0, 1, 2}},
		{[]int{3, 1, 0, 2}, []int{0, 3, 1, 2}, []int{0, 3}}, // 0 3 ahead of 1 2
		{[]int{3, 2, 0, 1}, []int{0, 1, 3, 2}, []int{0, 3}},
		{[]int{5, 4, 4, 4}, []int{-1, -1, -1, -1, 0, 3}, []int{4, 5}},        // one holds several
		{[]int{9, 4}, []int{-1, -1, -1, -1, 0, -1, -1, -1, -1, 0}, []int{9}}, // 4 waits for 9, which waits for itself
		{[]int{1, 2, 3, 4, 5, 6, 7, 0}, []int{0, 1, 2, 3, 4, 5, 6, 7}, []int{0, 1, 2, 3, 4, 5, 6, 7}},
		{[]int{7, 0, 1, 2, 3, 4, 5, 6}, []int{0, 1, 2, 3, 4, 5, 6, 7}, []int{0, 7, 6, 5, 4, 3, 2, 1}},
		{[]int{1, 2, 3, 4, 5, 6, 7, 8}, []int{0, 1, 2, 3, 4, 5, 6, 7, 0}, []int{1, 2, 3, 4, 5, 6, 7, 8}},
		{[]int{1, 2, 3, 4, 5, 6, 7, 8}, []int{0, 1, 2, 3, 4, 5, 6, 7, 7}, []int{8}},
		{[]int{1, 2, 3, 4, 5, 6, 7, 8}, []int{0, 1, 2, 3, 4, 5, 6, 7, 8}, nil},
		{[]int{math.MaxInt, 1 << 32}, []int{0, 1}, nil},
	} {
		x, _ := tableOf(t, c.holders...)
		if got := x.Ring(c.waits...); !slices.Equal(got, c.want) {
			t.Errorf("holders %v, waits %v: %v, want %v", c.holders, c.waits, got, c.want)
		}
	}
}

// P14.2: whoever holds up to four locks, and whatever four threads wait for, or fewer.
func TestEveryRing(t *testing.T) {
	four := rows(4)
	for locks := range 5 {
		each(locks, 3, func(holders []int) {
			x, m := tableOf(t, holders...)
			for waiters := range 5 {
				each(waiters, locks, func(waits []int) {
					if got, want := x.Ring(waits...), m.ring(four, waits); !slices.Equal(got, want) {
						t.Fatalf("holders %v, waits %v: %v, want %v", holders, waits, got, want)
					}
				})
			}
		})
	}
}

// P14.2: eight locks, held and waited for by chance by up to seven threads; numbers that are no lock too.
func TestRingsByChance(t *testing.T) {
	r := rand.New(rand.NewPCG(14, 2))
	seven := rows(7)
	for range 1500 {
		holders, waits := make([]int, 8), make([]int, 5+r.IntN(3))
		for lock := range holders {
			holders[lock] = r.IntN(8) - 1
		}
		x, m := tableOf(t, holders...)
		for range 4 {
			for i := range waits {
				waits[i] = r.IntN(8)
				if r.IntN(9) == 0 {
					waits[i] = wild[r.IntN(len(wild))]
				}
			}
			if got, want := x.Ring(waits...), m.ring(seven, waits); !slices.Equal(got, want) {
				t.Fatalf("holders %v, waits %v: %v, want %v", holders, waits, got, want)
			}
		}
	}
}

// P14.2, P1: of a great many threads, the ring of those far behind is found, and at once; threads behind all that is told are in none.
func TestManyThreads(t *testing.T) {
	const last = 1<<20 - 1
	waits := slices.Repeat([]int{0}, last+1)
	x, _ := tableOf(t, last, last-5, math.MaxInt, last+1)
	waits[last], waits[last-5] = 1, 0
	for range 10000 {
		if ring := x.Ring(waits...); !slices.Equal(ring, []int{last - 5, last}) {
			t.Fatal(ring)
		}
	}
	waits[last] = 2
	if ring := x.Ring(waits...); len(ring) != 0 {
		t.Error(ring)
	}
	waits[last] = 3
	if ring := x.Ring(waits...); len(ring) != 0 {
		t.Error(ring)
	}
}

// P14.2, P14.3: Ring changes neither the table nor what is handed in, nor what lies behind it, and doesn't keep it.
func TestAsItWas(t *testing.T) {
	each(3, 2, func(holders []int) {
		x, m := tableOf(t, holders...)
		each(3, 3, func(waits []int) {
			room := append(slices.Clone(waits), -77, 2, -77)
			before := slices.Clone(room)
			ring := x.Ring(room[:3]...)
			if !slices.Equal(room, before) {
				t.Fatalf("waits were %v and are %v", before, room)
			}
			want := slices.Clone(ring)
			fill(room, 99)
			if !slices.Equal(ring, want) {
				t.Fatalf("the ring %v lies in what was handed in", want)
			}
		})
		told(t, x, m)
	})
}

// fill writes all of a list's memory, and what lies behind its length.
func fill(list []int, with int) {
	room := list[:cap(list)]
	for i := range room {
		room[i] = with
	}
}

// P14.3: what is answered, and what lies behind its length, is neither the table's nor another answer's.
func TestNewMemory(t *testing.T) {
	const mark = -99
	for locks := range 9 {
		holders := slices.Repeat([]int{1}, locks)
		x, m := tableOf(t, holders...)
		for name, call := range map[string]func() []int{
			"All":  x.All,
			"Held": func() []int { return x.Held(1) },
			"Ring": func() []int { return x.Ring(-1, locks-1) },
		} {
			first, second := call(), call()
			want := slices.Clone(second)
			fill(first, mark)
			told(t, x, m)
			if !slices.Equal(second, want) || slices.Contains(second[:cap(second)], mark) || !slices.Equal(call(), want) {
				t.Errorf("%d locks: answers of %s share memory", locks, name)
			}
			drop(t, x, m, 0, 1)
			take(t, x, m, 0, 1)
			if !slices.Equal(first, slices.Repeat([]int{mark}, len(want))) {
				t.Errorf("%d locks: an answer of %s has changed: %v", locks, name, first)
			}
		}
	}
}

// Rule 8: two tables have nothing in common.
func TestApart(t *testing.T) {
	a, am := tableOf(t, -1, -1, -1)
	b, bm := tableOf(t, -1, -1, -1)
	for lock := range 3 {
		take(t, a, am, lock, lock)
		told(t, b, bm)
		take(t, b, bm, lock, 2-lock)
		told(t, a, am)
	}
	drop(t, a, am, 1, 1)
	told(t, b, bm)
	if ring := a.Ring(2, 1, 0); !slices.Equal(ring, []int{0, 2}) {
		t.Error(ring)
	}
	if ring := b.Ring(2, 1, 0); !slices.Equal(ring, []int{0}) {
		t.Error(ring)
	}
}
