package watch_test

import (
	"math/bits"
	"slices"
	"testing"

	"portcullis/api"
	"portcullis/code"
	"portcullis/watch"
)

// access: the place that a thread touches, and whether it writes; nil, if it touches nothing.
type access struct {
	place  int
	writes bool
}

// modelNext: the next operation of a thread, and its registers. It panics, if anything of it isn't there.
func modelNext(m api.Module, s api.State, thread int) (api.Op, []int) {
	t := s.Threads[thread]
	if !code.Right(m) || t.Fault != 0 {
		panic("nothing")
	}
	last := t.Frames[len(t.Frames)-1]
	return m.Funcs[last.Func].Code[last.Pc], last.Regs
}

// modelTouch tells what a thread touches by the chapter's words alone; what isn't there is a panic of the language's own.
func modelTouch(m api.Module, s api.State, thread int) (touched *access) {
	defer func() {
		if recover() != nil {
			touched = nil
		}
	}()
	o, regs := modelNext(m, s, thread)
	// Each register is asked for, whether its word counts here or not.
	named := map[int]string{api.OLoad: "A", api.OStore: "B", api.OGet: "AB", api.OPut: "AC", api.OIndex: "ABCD", api.OElem: "ABCD"}[o.Kind]
	r := map[rune]int{}
	for _, letter := range named {
		r[letter] = regs[map[rune]int{'A': o.A, 'B': o.B, 'C': o.C, 'D': o.D}[letter]]
	}
	address := 0
	switch o.Kind {
	case api.OLoad, api.OStore:
		number := map[int]int{api.OLoad: o.B, api.OStore: o.A}[o.Kind]
		_ = s.Globals[number]
		return &access{-1 - number, o.Kind == api.OStore}
	case api.OGet:
		if address = r['B'] + o.C; r['B'] == 0 {
			return nil
		}
	case api.OPut:
		if address = r['A'] + o.B; r['A'] == 0 {
			return nil
		}
	case api.OIndex:
		if address = r['B'] + r['D']; r['D'] < 0 || r['C'] <= r['D'] {
			return nil
		}
	case api.OElem:
		if address = r['A'] + r['C']; r['C'] < 0 || r['B'] <= r['C'] {
			return nil
		}
	default:
		return nil
	}
	_ = s.Arenas[(address-1)/64][(address-1)%64]
	if address < 1 {
		return nil
	}
	return &access{address, o.Kind == api.OPut || o.Kind == api.OElem}
}

// modelWait: the thread that holds the lock for which a thread waits; -1, if there is none.
func modelWait(m api.Module, s api.State, thread int) (holder int) {
	defer func() {
		if recover() != nil {
			holder = -1
		}
	}()
	if o, _ := modelNext(m, s, thread); o.Kind == api.OLock {
		return max(-1, s.Holders[o.A])
	}
	return -1
}

// modelRing: of the threads' sets, the smaller ones first, those that wait for each other: from one to the next round to the first. Two rings share no thread, so of two that there are the one with the least thread counts.
func modelRing(m api.Module, s api.State) []int {
	var best []int
	for set := 1; set < 1<<len(s.Threads); set++ {
		first := bits.TrailingZeros(uint(set))
		ring := []int{first}
		for len(ring) < bits.OnesCount(uint(set)) {
			next := modelWait(m, s, ring[len(ring)-1])
			if next < 0 || next > 60 || set>>next&1 == 0 || slices.Contains(ring, next) {
				break
			}
			ring = append(ring, next)
		}
		if len(ring) == bits.OnesCount(uint(set)) && modelWait(m, s, ring[len(ring)-1]) == first && (best == nil || first < best[0]) {
			best = ring
		}
	}
	return best
}

// modelLook tells what is seen by the chapter's words alone.
func modelLook(m api.Module, s api.State) api.Seen {
	seen := api.Seen{Ring: modelRing(m, s), Torn: s.Torn, Wild: s.Wild}
	var touches []*access
	for thread := range s.Threads {
		touches = append(touches, modelTouch(m, s, thread))
	}
	for a, x := range touches {
		if s.Threads[a].Fault == 6 {
			seen.Bad = append(seen.Bad, a)
		}
		for b, y := range touches {
			if a < b && x != nil && y != nil && x.place == y.place && (x.writes || y.writes) {
				seen.Races = append(seen.Races, [2]int{a, b})
			}
		}
	}
	return seen
}

// sameSeen: are two the same, whatever lists without elements are?
func sameSeen(a, b api.Seen) bool {
	return slices.Equal(a.Races, b.Races) && slices.Equal(a.Ring, b.Ring) && slices.Equal(a.Bad, b.Bad) && a.Torn == b.Torn && a.Wild == b.Wild
}

// hold holds all that is answered of a state, of at most a few threads, against the model.
func hold(t *testing.T, m api.Module, s api.State) api.Seen {
	t.Helper()
	for _, thread := range wild {
		holdTouch(t, m, s, thread)
	}
	return holdThreads(t, m, s)
}

// holdThreads holds all that is answered of a state against the model, and of its threads alone what they touch.
func holdThreads(t *testing.T, m api.Module, s api.State) api.Seen {
	t.Helper()
	for thread := range len(s.Threads) + 1 {
		holdTouch(t, m, s, thread)
	}
	got, want := watch.Look(m, s), modelLook(m, s)
	if !sameSeen(got, want) {
		t.Fatalf("%+v, want %+v: %+v", got, want, s)
	}
	if clean := len(want.Races)+len(want.Ring)+len(want.Bad) == 0 && !want.Torn && !want.Wild; watch.Clean(got) != clean {
		t.Fatalf("%v of %+v", !clean, got)
	}
	return got
}

// holdTouch holds what a thread touches against the model.
func holdTouch(t *testing.T, m api.Module, s api.State, thread int) {
	t.Helper()
	var want access
	touched := modelTouch(m, s, thread)
	if touched != nil {
		want = *touched
	}
	if place, writes, ok := watch.Touch(m, s, thread); place != want.place || writes != want.writes || ok != (touched != nil) {
		t.Fatalf("thread %d: %d %v %v, want %v: %+v", thread, place, writes, ok, touched, s)
	}
}
