package watch_test

import (
	"math/rand/v2"
	"reflect"
	"slices"
	"strings"
	"testing"

	"portcullis/api"
	"portcullis/machine"
	"portcullis/sample"
	"portcullis/watch"
)

// wordsOf: the words of a state by their places.
func wordsOf(s api.State) map[int]api.Word {
	words := map[int]api.Word{}
	for i, w := range s.Globals {
		words[-1-i] = w
	}
	for thread, arena := range s.Arenas {
		for k, w := range arena {
			words[1+thread*64+k] = w
		}
	}
	return words
}

// changed: the places whose words are others than they were.
func changed(before, after api.State) []int {
	var places []int
	now := wordsOf(after)
	for place, w := range wordsOf(before) {
		if now[place] != w {
			places = append(places, place)
		}
	}
	return places
}

// tick: a tick of a thread, in which it touches just what Touch tells; the answer tells it.
func tick(t *testing.T, m api.Module, x *machine.Machine, thread int) access {
	t.Helper()
	before := x.State()
	place, writes, ok := watch.Touch(m, before, thread)
	o, _ := x.Next(thread)
	x.Step(thread)
	after := x.State()
	var want []int
	if writes {
		want = []int{place}
	}
	if got := changed(before, after); !slices.Equal(got, want) {
		t.Fatalf("%+v: %v has changed, want %v", o, got, want)
	}
	now := after.Threads[thread]
	if can := o.Kind >= api.OGet && o.Kind <= api.OElem || o.Kind == api.OLoad || o.Kind == api.OStore; ok != (can && now.Fault == 0) {
		t.Fatalf("%+v: %v, fault %d", o, ok, now.Fault)
	}
	if ok && !writes {
		call := now.Frames[len(now.Frames)-1]
		if call.Regs[o.A] != wordsOf(before)[place].V {
			t.Fatalf("%+v: %d is loaded from %d", o, call.Regs[o.A], place)
		}
	}
	return access{place, writes}
}

// P16.1 and P16.2: programs of all sorts, run by chance: what a thread touches is what the machine then loads or stores, and all that is seen is what the model sees, of states that were changed too.
func TestSamples(t *testing.T) {
	r := rand.New(rand.NewPCG(16, 1))
	met := map[string]int{}
	for seed := range uint64(300) {
		m := sample.Lowered(sample.Program(seed, 0))
		x := sample.Begun(m)
		for range 60 * len(m.Threads) {
			s := x.State()
			for range r.IntN(4) {
				change(r, m, &s)
			}
			count(met, holdThreads(t, m, s))
			switch got := tick(t, m, x, r.IntN(len(m.Threads))); {
			case got.place < 0:
				met["global"]++
			case got.place > 0:
				met["own"]++
			}
		}
	}
	for _, what := range []string{"global", "own", "race", "ring", "bad", "clean"} {
		if met[what] < 100 {
			t.Error(what, met[what])
		}
	}
}

// count: what was seen.
func count(met map[string]int, seen api.Seen) {
	for what, so := range map[string]bool{"race": len(seen.Races) > 0, "ring": len(seen.Ring) > 0, "bad": len(seen.Bad) > 0, "clean": watch.Clean(seen)} {
		if so {
			met[what]++
		}
	}
}

// number: a small one mostly, that a place, an address or a thread may be.
func number(r *rand.Rand) int {
	if r.IntN(8) == 0 {
		return wild[r.IntN(len(wild))]
	}
	return r.IntN([]int{2, 4, 12, 70, 260}[r.IntN(5)])
}

// change changes one thing of a state.
func change(r *rand.Rand, m api.Module, s *api.State) {
	if len(s.Threads) == 0 {
		return
	}
	t := &s.Threads[r.IntN(len(s.Threads))]
	if len(t.Frames) == 0 {
		t.Frames = []api.Frame{{Func: r.IntN(len(m.Funcs)), Regs: make([]int, r.IntN(20))}}
	}
	call := &t.Frames[len(t.Frames)-1]
	switch r.IntN(14) {
	case 0:
		call.Func = number(r)
	case 1:
		call.Pc = number(r)
	case 2:
		call.Regs = call.Regs[:r.IntN(len(call.Regs)+1)]
	case 3, 4:
		for i := range call.Regs {
			call.Regs[i] = number(r)
		}
	case 5:
		t.Fault = r.IntN(8)
	case 6, 7:
		for i := range s.Holders {
			s.Holders[i] = r.IntN(5) - 1
		}
	case 8:
		s.Globals = s.Globals[:r.IntN(len(s.Globals)+1)]
	case 9:
		s.Arenas = append(s.Arenas, make([]api.Word, r.IntN(70)))[r.IntN(2):]
	case 10:
		seek(r, m, call)
	default:
		seek(r, m, call)
		t.Fault, call.Regs = 0, r.Perm(m.Funcs[call.Func].Regs)
		for i := range s.Threads {
			s.Threads[i] = *t
		}
		*s = sample.Copied(*s)
	}
}

// seek lets a call go on somewhere where something is touched or a lock is taken.
func seek(r *rand.Rand, m api.Module, call *api.Frame) {
	for range 50 {
		call.Func = r.IntN(len(m.Funcs))
		f := m.Funcs[call.Func]
		call.Pc = r.IntN(len(f.Code))
		if kind := f.Code[call.Pc].Kind; kind == api.OLock || kind >= api.OLoad && kind <= api.OElem {
			break
		}
	}
}

// seenBy: how many orders of two threads come to a state of which each thing is seen.
func seenBy(t *testing.T, m api.Module, first, second int) map[string]int {
	met := map[string]int{}
	sample.Orders(first, second, func(picks []int) {
		x := sample.Begun(m)
		all := watch.Look(m, x.State())
		for _, thread := range picks {
			x.Step(thread)
			seen := watch.Look(m, x.State())
			if !watch.Clean(seen) {
				all = seen
			}
		}
		count(met, all)
		if all.Torn {
			met["torn"]++
		}
	})
	return met
}

// P16.2: a slice that one thread sets while another loads it: races and torn slices are seen for some picks; guarded, for none.
func TestGuarded(t *testing.T) {
	for guard, free := range map[string]bool{"": false, "lock l ;": true} {
		open := strings.Replace(guard, "lock", "unlock", 1)
		m := sample.Lowered("lock l ; sink o ; var g [ ] int ; thread a { " + guard + " set g = make ( 2 ) ; " + open + " } thread b { " + guard + " out o len ( g ) ; " + open + " }")
		met := seenBy(t, m, 7, 6)
		if free && met["clean"] != 1716 || !free && (met["race"] == 0 || met["torn"] == 0) {
			t.Errorf("%q: %v", guard, met)
		}
	}
}

// P16.2: two threads that take two locks in unlike orders come to a ring for some picks; in one order for none.
func TestOrders(t *testing.T) {
	for second, free := range map[string]bool{"lock k ; lock l ;": false, "lock l ; lock k ;": true} {
		m := sample.Lowered("lock l ; lock k ; thread a { lock l ; lock k ; unlock k ; unlock l ; } thread b { " + second + " unlock l ; unlock k ; }")
		met := seenBy(t, m, 5, 5)
		if free && met["clean"] != 252 || !free && (met["ring"] == 0 || met["clean"] == 0) {
			t.Errorf("%q: %v", second, met)
		}
	}
	x := sample.Begun(sample.Lowered("lock l ; thread a { unlock l ; } thread b { lock l ; } thread c { lock l ; unlock l ; unlock l ; }"))
	x.Run(2, 2, 2, 1, 0)
	if got := watch.Look(sample.Lowered("thread a { }"), x.State()); !reflect.DeepEqual(got, api.Seen{Bad: []int{0, 2}}) {
		t.Error(got)
	}
}

// P16.4: what is handed in is as it was, what lies behind it in its memory too; what is answered is new memory.
func TestHandedIn(t *testing.T) {
	m := codeOf("store 0 3 0", "lock 0", "lock 1")
	s := stateOf(touchingWords, 0, 0, 1, 2, 0)
	s.Holders = []int{3, 2, 77, 77}[:2]
	s.Threads = append(s.Threads, api.Thread{Fault: api.FHeld}, api.Thread{Fault: 77})[:6]
	s.Threads[0].Frames[0].Regs = append(s.Threads[0].Frames[0].Regs, 77)[:regs]
	wantState, wantCode := sample.Copied(s), codeOf("store 0 3 0", "lock 0", "lock 1")
	first, second := watch.Look(m, s), watch.Look(m, s)
	watch.Touch(m, s, 0)
	if want := (api.Seen{Races: [][2]int{{0, 1}, {0, 4}, {1, 4}}, Ring: []int{2, 3}, Bad: []int{5}}); !sameSeen(first, want) {
		t.Error(first)
	}
	fill(first.Races, [2]int{9, 9})
	fill(first.Ring, 9)
	fill(first.Bad, 9)
	if !sameSeen(second, watch.Look(m, s)) || !slices.Equal(second.Ring, []int{2, 3}) {
		t.Error(second)
	}
	if !reflect.DeepEqual(sample.Copied(s), wantState) || !reflect.DeepEqual(m, wantCode) {
		t.Error("changed")
	}
	if s.Holders[:4][2] != 77 || s.Threads[:7][6].Fault != 77 || s.Threads[0].Frames[0].Regs[:regs+1][regs] != 77 {
		t.Error("changed behind the end")
	}
}

// fill writes all of a list's memory.
func fill[T any](list []T, with T) {
	room := list[:cap(list)]
	for i := range room {
		room[i] = with
	}
}

// P1: states with very many threads, of which few, or none, touch anything.
func TestManyThreads(t *testing.T) {
	m := codeOf("store 0 0 0", "lock 0")
	s := stateOf(nil, 0, 1)
	s.Threads = slices.Repeat([]api.Thread{s.Threads[0], {}, s.Threads[1], {}, {Fault: 6}}, 40)
	s.Threads = append(s.Threads, make([]api.Thread, 1<<20)...)
	s.Holders = []int{2}
	got := watch.Look(m, s)
	if len(got.Races) != 780 || got.Races[0] != [2]int{0, 5} || got.Races[779] != [2]int{190, 195} || !slices.Equal(got.Ring, []int{2}) || len(got.Bad) != 40 {
		t.Error(len(got.Races), got.Ring, len(got.Bad))
	}
	if place, writes, ok := watch.Touch(m, s, 195); place != -1 || !writes || !ok {
		t.Error(place, writes, ok)
	}
}
