package fifo_test

import (
	"math"
	"math/rand/v2"
	"slices"
	"testing"

	"portcullis/fifo"
)

// values: numbers that may wait, the greatest and the least among them.
var values = []int{0, 1, -1, 5, -7, 1 << 32, -1 << 32, math.MaxInt, math.MinInt}

// model is a queue told by the chapter's words alone: the numbers that wait, the longest first.
type model struct {
	places  int
	waiting []int
}

func modelOf(places int) *model {
	switch {
	case places < 1:
		places = 1
	case places > 4:
		places = 4
	}
	return &model{places: places}
}

func (m *model) put(v int) bool {
	if len(m.waiting) == m.places {
		return false
	}
	m.waiting = append(m.waiting, v)
	return true
}

func (m *model) get() (int, bool) {
	if len(m.waiting) == 0 {
		return 0, false
	}
	v := m.waiting[0]
	m.waiting = m.waiting[1:]
	return v, true
}

// put puts a number into both, and holds the answers against each other.
func put(t *testing.T, q *fifo.Queue, m *model, v int) {
	t.Helper()
	if ok, want := q.Put(v), m.put(v); ok != want {
		t.Fatalf("Put %d: %v, want %v", v, ok, want)
	}
	told(t, q, m)
}

// get gets a number from both, and holds the answers against each other.
func get(t *testing.T, q *fifo.Queue, m *model) {
	t.Helper()
	v, ok := q.Get()
	if want, wantOk := m.get(); v != want || ok != wantOk {
		t.Fatalf("Get: %d %v, want %d %v", v, ok, want, wantOk)
	}
	told(t, q, m)
}

// told holds what a queue answers without a change against the model.
func told(t *testing.T, q *fifo.Queue, m *model) {
	t.Helper()
	if n := q.Len(); n != len(m.waiting) {
		t.Fatalf("Len: %d, want %d", n, len(m.waiting))
	}
	if n := q.Room(); n != m.places-len(m.waiting) {
		t.Fatalf("Room: %d, want %d", n, m.places-len(m.waiting))
	}
	if all := q.All(); !slices.Equal(all, m.waiting) {
		t.Fatalf("All: %v, want %v", all, m.waiting)
	}
}

// P13.1: the chapter's example.
func TestExample(t *testing.T) {
	q := fifo.New(2)
	if !q.Put(5) || !q.Put(6) || q.Put(7) {
		t.Error("5 and 6 have places, 7 has none")
	}
	if v, ok := q.Get(); v != 5 || !ok {
		t.Error(v, ok)
	}
}

// P13.1: so many places, 1 at least and 4 at most; nothing waits.
func TestPlaces(t *testing.T) {
	for _, c := range [][2]int{
		{math.MinInt, 1}, {-1 << 32, 1}, {-4, 1}, {-1, 1}, {0, 1},
		{1, 1}, {2, 2}, {3, 3}, {4, 4},
		{5, 4}, {6, 4}, {1 << 16, 4}, {1 << 32, 4}, {1<<32 + 2, 4}, {1 << 62, 4}, {math.MaxInt, 4},
	} {
		q := fifo.New(c[0])
		if n := q.Room(); n != c[1] {
			t.Errorf("New %d: %d places, want %d", c[0], n, c[1])
		}
		if n, all := q.Len(), q.All(); n != 0 || len(all) != 0 {
			t.Errorf("New %d: %d wait, %v", c[0], n, all)
		}
		if v, ok := q.Get(); v != 0 || ok {
			t.Errorf("New %d: Get is %d %v, where nothing waits", c[0], v, ok)
		}
		taken := 0
		for taken < 10 && q.Put(taken) {
			taken++
		}
		if taken != c[1] {
			t.Errorf("New %d: %d could be put, want %d", c[0], taken, c[1])
		}
	}
}

// P13.1: where all places are taken, a number more changes nothing, and where nothing waits, Get doesn't either.
func TestNothingChanged(t *testing.T) {
	for places := 1; places <= 4; places++ {
		q, m := fifo.New(places), modelOf(places)
		for range 3 {
			for i := range places + 3 {
				put(t, q, m, 10+i)
			}
			for range places + 3 {
				get(t, q, m)
			}
		}
	}
}

// P13.1: any number may wait, 0 and the greatest and the least too, and comes out as it went in.
func TestValues(t *testing.T) {
	for places := 1; places <= 4; places++ {
		q, m := fifo.New(places), modelOf(places)
		for _, v := range values {
			put(t, q, m, v)
			put(t, q, m, v)
			get(t, q, m)
		}
	}
}

// P13.1: every row of calls up to eleven long, in each number of places.
func TestRows(t *testing.T) {
	const long = 11
	for places := 1; places <= 4; places++ {
		for row := range 1 << long {
			q, m := fifo.New(places), modelOf(places)
			for i := range long {
				if row>>i&1 == 1 {
					put(t, q, m, i)
				} else {
					get(t, q, m)
				}
			}
		}
	}
}

// P13.1: long rows of calls, by chance.
func TestLongRows(t *testing.T) {
	r := rand.New(rand.NewPCG(13, 1))
	for range 200 {
		places := r.IntN(8) - 2
		q, m := fifo.New(places), modelOf(places)
		for range 500 {
			if r.IntN(2) == 0 {
				put(t, q, m, values[r.IntN(len(values))])
			} else {
				get(t, q, m)
			}
		}
	}
}

// P13.1, rule 8: two queues have nothing in common.
func TestApart(t *testing.T) {
	a, b := fifo.New(4), fifo.New(4)
	am, bm := modelOf(4), modelOf(4)
	for i := range 6 {
		put(t, a, am, i)
		told(t, b, bm)
		put(t, b, bm, -i)
		told(t, a, am)
	}
	get(t, a, am)
	told(t, b, bm)
}

// P13.2: what All answers, and what lies behind its length, is neither the queue's nor another answer's.
func TestNewMemory(t *testing.T) {
	for places := 1; places <= 4; places++ {
		for n := range places + 1 {
			q, m := fifo.New(places), modelOf(places)
			for i := range n {
				put(t, q, m, 20+i)
			}
			first, second := q.All(), q.All()
			for i := range first[:cap(first)] {
				first[:cap(first)][i] = -99
			}
			told(t, q, m)
			if !slices.Equal(second, m.waiting) {
				t.Errorf("%d of %d: the second answer is %v, want %v", n, places, second, m.waiting)
			}
			for _, v := range second[:cap(second)] {
				if v == -99 {
					t.Errorf("%d of %d: two answers share memory", n, places)
				}
			}
			put(t, q, m, 30)
			get(t, q, m)
			if !slices.Equal(first, slices.Repeat([]int{-99}, n)) {
				t.Errorf("%d of %d: an answer has changed: %v", n, places, first)
			}
		}
	}
}

// P1: a call ends where all places are taken and where nothing waits, however often.
func TestEnds(t *testing.T) {
	q, m := fifo.New(1), modelOf(1)
	for range 1000 {
		get(t, q, m)
	}
	for range 1000 {
		put(t, q, m, 1)
	}
	get(t, q, m)
	get(t, q, m)
}
