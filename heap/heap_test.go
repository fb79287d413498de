package heap_test

import (
	"math"
	"math/rand/v2"
	"slices"
	"testing"

	"portcullis/api"
	"portcullis/heap"
)

// wild: numbers that are no thread, no size that there is room for, and no address.
var wild = []int{math.MinInt, math.MinInt + 1, math.MinInt + 65, -1 << 32, -65, -64, -2, -1, 257, 258, 321, 1 << 32, 1<<32 + 1, 1 << 58, 1<<58 + 1, 1 << 62, math.MaxInt - 64, math.MaxInt - 1, math.MaxInt}

// cell is a word of the model, and what it belongs to.
type cell struct {
	word   api.Word
	thread int
	object api.Object
}

// model is the memories told by the chapter's words alone: what is in use, by addresses.
type model struct {
	threads int
	cells   map[int]cell
}

func modelOf(threads int) model {
	return model{max(0, min(4, threads)), map[int]cell{}}
}

// used: how many words of a thread are in use.
func (m model) used(t int) int {
	k := 0
	for k < 64 && m.cells[1+64*t+k].object.Size > 0 {
		k++
	}
	return k
}

func (m model) make(t, size, fn, op int) (int, bool) {
	if t < 0 || t >= m.threads || size < 0 || size > 64 || m.used(t)+size > 64 {
		return 0, false
	}
	if size == 0 {
		return 0, true
	}
	o := api.Object{At: m.used(t), Size: size, Func: fn, Op: op}
	for k := range size {
		m.cells[1+64*t+o.At+k] = cell{thread: t, object: o}
	}
	return 1 + 64*t + o.At, true
}

func (m model) store(addr int, w api.Word) bool {
	c, ok := m.cells[addr]
	if ok {
		c.word = w
		m.cells[addr] = c
	}
	return ok
}

// told holds all that a heap answers, and doesn't change it, against the model.
func told(t *testing.T, h *heap.Heap, m model) {
	t.Helper()
	at := func(addr int) {
		want, wantOk := m.cells[addr]
		if w, ok := h.Load(addr); w != want.word || ok != wantOk {
			t.Fatalf("Load %d: %v %v, want %v %v", addr, w, ok, want.word, wantOk)
		}
		if thread, o, ok := h.Of(addr); thread != want.thread || o != want.object || ok != wantOk {
			t.Fatalf("Of %d: %d %v %v, want %v %v", addr, thread, o, ok, want, wantOk)
		}
	}
	of := func(thread int) {
		var words []api.Word
		var objects []api.Object
		for k := range 64 {
			if c, ok := m.cells[1+64*thread+k]; ok && thread >= 0 && thread < m.threads {
				words = append(words, c.word)
				if c.object.At == k {
					objects = append(objects, c.object)
				}
			}
		}
		if got := h.Words(thread); !slices.Equal(got, words) {
			t.Fatalf("Words %d: %v, want %v", thread, got, words)
		}
		if got := h.Objects(thread); !slices.Equal(got, objects) {
			t.Fatalf("Objects %d: %v, want %v", thread, got, objects)
		}
	}
	for n := -70; n < 400; n++ {
		at(n)
	}
	for n := -3; n < 9; n++ {
		of(n)
	}
	for _, n := range wild {
		at(n)
		of(n)
	}
}

// made holds an answer of Make against what is wanted, and all else of the heap against the model.
func made(t *testing.T, h *heap.Heap, m model, thread, size, fn, op int) {
	t.Helper()
	want, wantOk := m.make(thread, size, fn, op)
	if addr, ok := h.Make(thread, size, fn, op); addr != want || ok != wantOk {
		t.Fatalf("Make %d %d: %d %v, want %d %v", thread, size, addr, ok, want, wantOk)
	}
	told(t, h, m)
}

// P12.1: as many threads as asked for, none below 0, at most four; nothing is in use.
func TestNew(t *testing.T) {
	counts := append([]int{0, 1, 2, 3, 4, 5, 6, 8, 63, 64, 65, 4096}, wild...)
	for _, n := range counts {
		h, m := heap.New(n), modelOf(n)
		told(t, h, m)
		for thread := -1; thread < 6; thread++ {
			addr, ok := h.Make(thread, 64, 0, 0)
			if there := thread >= 0 && thread < n && thread < 4; ok != there || there && addr != 1+64*thread || !there && addr != 0 {
				t.Error(n, thread, addr, ok)
			}
		}
	}
}

// P12.1 and P12.2: the chapter's example, and cases by hand.
func TestByHand(t *testing.T) {
	h := heap.New(2)
	for _, c := range []struct {
		thread, size, want int
		ok                 bool
	}{
		{1, 3, 65, true}, {1, 1, 68, true}, {1, 0, 0, true}, {1, 61, 0, false}, {1, 60, 69, true}, {1, 1, 0, false}, {1, 0, 0, true},
		{0, 65, 0, false}, {0, 64, 1, true}, {0, 0, 0, true}, {0, -1, 0, false}, {2, 0, 0, false}, {-1, 0, 0, false}, {2, 1, 0, false},
	} {
		if addr, ok := h.Make(c.thread, c.size, 7, -3); addr != c.want || ok != c.ok {
			t.Error(c, addr, ok)
		}
	}
	for addr, at := range map[int][3]int{1: {0, 0, 64}, 64: {0, 0, 64}, 65: {1, 0, 3}, 66: {1, 0, 3}, 67: {1, 0, 3}, 68: {1, 3, 1}, 69: {1, 4, 60}, 128: {1, 4, 60}} {
		if thread, o, ok := h.Of(addr); thread != at[0] || o != (api.Object{At: at[1], Size: at[2], Func: 7, Op: -3}) || !ok {
			t.Error(addr, thread, o, ok)
		}
	}
	if got := h.Objects(1); len(got) != 3 || got[0].Size != 3 || got[1].Size != 1 || got[2].Size != 60 {
		t.Error(got)
	}
}

// P12.1: every size in every room, at every thread: what there is room for is an object, whose words are zero; all else changes nothing.
func TestRoom(t *testing.T) {
	sizes := append([]int{-3, -2, -1, 65, 66, 67, 127, 128}, wild...)
	for used := range 65 {
		for thread := range 3 {
			for size := range 65 {
				h, m := heap.New(3), modelOf(3)
				m.make(thread, used, 1, 2)
				h.Make(thread, used, 1, 2)
				want, wantOk := m.make(thread, size, 3, 4)
				if addr, ok := h.Make(thread, size, 3, 4); addr != want || ok != wantOk {
					t.Fatal(used, thread, size, addr, ok)
				}
				if (used+size)%8 == 0 {
					told(t, h, m)
				}
			}
		}
		h, m := heap.New(1), modelOf(1)
		made(t, h, m, 0, used, 1, 2)
		for _, size := range sizes {
			if addr, ok := h.Make(0, size, 3, 4); addr != 0 || ok {
				t.Error(used, size, addr, ok)
			}
		}
		told(t, h, m)
	}
}

// P12.1: no such thread, whatever the size is; a thread's numbers may be any.
func TestNoThread(t *testing.T) {
	for n := range 5 {
		h, m := heap.New(n), modelOf(n)
		for i, thread := range append([]int{n, n + 1, 4, 5, 64}, wild...) {
			for _, size := range []int{-1, 0, 1, 64, 65, math.MinInt, math.MaxInt} {
				if addr, ok := h.Make(thread, size, i, i); addr != 0 || ok {
					t.Error(n, thread, size, addr, ok)
				}
			}
		}
		told(t, h, m)
		for i, number := range wild {
			if n > 0 {
				made(t, h, m, i%n, 1+i%2, number, -number)
			}
		}
	}
}

// P12.1: an object a word, until all threads are full; each one full doesn't touch the others.
func TestFull(t *testing.T) {
	h, m := heap.New(4), modelOf(4)
	for i := range 64 {
		for thread := 3; thread >= 0; thread-- {
			made(t, h, m, thread, 1, thread, i)
		}
	}
	for thread := range 4 {
		made(t, h, m, thread, 1, 0, 0)
		made(t, h, m, thread, 0, 0, 0)
		if len(h.Words(thread)) != api.Arena || len(h.Objects(thread)) != api.Arena {
			t.Error(thread)
		}
	}
}

// P12.2: what is stored at an address is there, and nowhere else; where nothing is in use nothing is stored.
func TestStore(t *testing.T) {
	h, m := heap.New(3), modelOf(3)
	made(t, h, m, 0, 64, 0, 0)
	made(t, h, m, 1, 5, 0, 1)
	made(t, h, m, 1, 2, 0, 2)
	addrs := slices.Clone(wild)
	for addr := -5; addr < 270; addr++ {
		addrs = append(addrs, addr)
	}
	for i, addr := range addrs {
		w := api.Word{V: wild[i%len(wild)], Store: -i}
		if got, want := h.Store(addr, w), addr >= 1 && addr <= 71; got != want || m.store(addr, w) != want {
			t.Error(addr, got)
		}
		told(t, h, m)
	}
	made(t, h, m, 1, 57, 0, 3)
	made(t, h, m, 2, 1, 0, 4)
	h.Store(1, api.Word{})
	m.store(1, api.Word{})
	told(t, h, m)
}

// P12.1 and P12.2: made calls, one behind the other, against the model.
func TestModel(t *testing.T) {
	random := rand.New(rand.NewPCG(12, 12))
	for round := range 60 {
		n := random.IntN(6)
		h, m := heap.New(n), modelOf(n)
		for range 120 {
			switch random.IntN(3) {
			case 0:
				made(t, h, m, random.IntN(6)-1, random.IntN(2+round%20)-1, random.IntN(12), random.IntN(4096))
			default:
				addr, w := random.IntN(270)-5, api.Word{V: int(random.Uint64()), Store: random.IntN(99)}
				if got, want := h.Store(addr, w), m.store(addr, w); got != want {
					t.Fatal("Store", addr, got)
				}
				told(t, h, m)
			}
		}
	}
}

// P12.3 and P2: what is answered is new memory, spare room too: nothing that is written into it is seen by the heap or by another answer, and it stays as it was; heaps have nothing in common.
func TestApart(t *testing.T) {
	h, m := heap.New(2), modelOf(2)
	other, otherModel := heap.New(2), modelOf(2)
	for i := range 13 {
		words, objects := h.Words(1), h.Objects(1)
		moreWords, moreObjects := h.Words(1), h.Objects(1)
		oldWords, oldObjects := slices.Clone(words), slices.Clone(objects)
		made(t, h, m, 1, 1+i%4, i, i)
		if i > 0 {
			h.Store(65, api.Word{V: i, Store: i})
			m.store(65, api.Word{V: i, Store: i})
		}
		if !slices.Equal(words, oldWords) || !slices.Equal(objects, oldObjects) {
			t.Error("an answer has changed", i)
		}
		fill(words, api.Word{V: -1, Store: -1})
		fill(objects, api.Object{At: -1, Size: -1, Func: -1, Op: -1})
		if !slices.Equal(moreWords, oldWords) || !slices.Equal(moreObjects, oldObjects) {
			t.Error("answers share memory", i)
		}
		told(t, h, m)
	}
	told(t, other, otherModel)
	made(t, other, otherModel, 1, 2, 8, 9)
	told(t, h, m)
}

// fill writes all of a list's memory, and what lies behind its length.
func fill[T any](list []T, with T) {
	room := list[:cap(list)]
	for i := range room {
		room[i] = with
	}
}

// P2: the same calls have the same answers.
func TestAgain(t *testing.T) {
	run := func() []int {
		h, list := heap.New(3), []int{}
		for i := range 40 {
			addr, _ := h.Make(i%4, i%7, i, -i)
			h.Store(addr+1, api.Word{V: i, Store: i})
			w, _ := h.Load(addr + 2)
			thread, o, _ := h.Of(addr)
			list = append(list, addr, w.V, thread, o.At, o.Func, len(h.Words(0)))
		}
		return list
	}
	if first := run(); !slices.Equal(run(), first) || !slices.Equal(run(), first) {
		t.Error(first)
	}
}
