package machine_test

import (
	"fmt"
	"math/rand/v2"
	"reflect"
	"slices"
	"strings"
	"testing"

	"portcullis/api"
	"portcullis/code"
	"portcullis/machine"
	"portcullis/sample"
)

// P15.1: which error New has, of several that apply; and nothing beside it.
func TestNew(t *testing.T) {
	wrong := func(m api.Module, inputs, hatches []int, want api.Errno) {
		t.Helper()
		if x, e := machine.New(m, inputs, hatches); e != want || (x == nil) != (want != api.OK) {
			t.Errorf("%d and %v, want %d: %v %v", e, x, want, inputs, hatches)
		}
	}
	halt := []api.Func{{Code: []api.Op{{Kind: api.OReturn}}}}
	wrong(api.Module{}, nil, nil, api.ErrCode)
	wrong(api.Module{Inputs: make([]string, 1)}, nil, nil, api.ErrCode)
	for count := range 10 {
		for other := range 10 {
			for given := range 11 {
				both := api.Module{Funcs: halt, Inputs: make([]string, count), Hatches: make([]string, other)}
				want, wantToo := api.OK, api.OK
				if given != count {
					want = api.ErrInputs
				}
				if given != other {
					wantToo = api.ErrInputs
				}
				if count > 8 || other > 8 {
					want, wantToo = api.ErrCode, api.ErrCode
				}
				wrong(both, make([]int, given), make([]int, other), want)
				wrong(both, make([]int, count), make([]int, given), wantToo)
			}
		}
	}
	m := threads("out 0 0", "load 0 1 0")
	wrong(m, inputs, hatches, api.OK)
	wrong(m, hatches, inputs, api.ErrInputs)
	wrong(m, nil, hatches, api.ErrInputs)
	wrong(m, inputs, nil, api.ErrInputs)
	wrong(m, make([]int, 1<<20), hatches, api.ErrInputs)
	m.Funcs[1].Code[0].B = 4
	wrong(m, inputs, hatches, api.ErrCode)
	wrong(m, nil, nil, api.ErrCode)
}

// P15.1 and P15.2: the tick 0, of code with as much as may be of everything, and with nothing.
func TestBegin(t *testing.T) {
	most := api.Module{Locks: make([]string, 8), Inputs: make([]string, 8), Sinks: make([]string, 4), Hatches: make([]string, 8), Threads: []int{0, 1, 0, 11}}
	for i := range 16 {
		most.Globals = append(most.Globals, api.Sized{Size: 2 - i/15})
	}
	for i := range 4 {
		most.Structs = append(most.Structs, api.Sized{Size: 16})
		most.Chans = append(most.Chans, api.Sized{Size: 1 + i})
	}
	for i := range 12 {
		most.Funcs = append(most.Funcs, api.Func{Regs: []int{1024, 0, 1, 7}[i%4], Code: slices.Repeat(sample.Ops("return"), 341)})
	}
	b := begin(t, most, make([]int, 8), make([]int, 8))
	s := b.x.State()
	if s.Tick != 0 || len(s.Globals) != 31 || len(s.Threads) != 4 || len(s.Arenas) != 4 || len(s.Objects) != 4 || len(s.Queues) != 4 || len(s.Events) != 0 || s.Stores != 0 || s.Torn || s.Wild {
		t.Errorf("%+v", s)
	}
	if !slices.Equal(s.Holders, []int{-1, -1, -1, -1, -1, -1, -1, -1}) || slices.ContainsFunc(s.Globals, func(w api.Word) bool { return w != api.Word{} }) {
		t.Error(s.Holders, s.Globals)
	}
	for i, regs := range []int{1024, 0, 1024, 7} {
		if want := (api.Frame{Func: most.Threads[i], To: -1, Regs: make([]int, regs)}); fmt.Sprint(s.Threads[i]) != fmt.Sprint(api.Thread{Frames: []api.Frame{want}}) {
			t.Error(i, s.Threads[i])
		}
	}
	b.run(0, 2, 3, 1, 1, 0, 3, 2)
	none := begin(t, api.Module{Funcs: most.Funcs[:1]}, nil, nil)
	if e := none.x.Step(0); e != api.ErrPick || !same(none.x.State(), api.State{}) {
		t.Error(e, none.x.State())
	}
	if e := none.x.Run(); e != api.OK {
		t.Error(e)
	}
}

// P15.1 and P15.2: a thread that isn't there does nothing at all; Run stops at it.
func TestPicks(t *testing.T) {
	for count := 1; count <= 4; count++ {
		b := begin(t, threads([]string{"lock 0; out 0 1", "lock 0", "recv 0 0", "out 0 0"}[:count]...), inputs, hatches)
		for _, thread := range append(slices.Clone(wild), -1, count, 64, 65) {
			if thread >= 0 && thread < count {
				continue
			}
			if e := b.x.Step(thread); e != api.ErrPick {
				t.Error(thread, e)
			}
			b.hold()
			if e := b.x.Run(0, count-1, thread, 0); e != api.ErrPick {
				t.Error(thread, e)
			}
			b.m.step(0)
			b.m.step(count - 1)
			b.hold()
			if o, ok := b.x.Next(thread); !reflect.DeepEqual(o, api.Op{}) || ok || b.x.Blocked(thread) || b.x.Ended(thread) {
				t.Error(thread, o, ok)
			}
		}
	}
}

// P15.2: who has ended is not blocked, and has nothing to do; who is blocked has.
func TestWaiting(t *testing.T) {
	b := begin(t, threads("lock 0; lock 0", "recv 2 1", "send 0 0; send 0 0", "unlock 1"), inputs, hatches)
	b.run(0, 2, 3)
	for thread, kind := range []int{api.OLock, api.ORecv, api.OSend, 0} {
		for range 3 {
			o, ok := b.x.Next(thread)
			if o.Kind != kind || ok != (kind != 0) || b.x.Blocked(thread) != (kind != 0) || b.x.Ended(thread) != (kind == 0) {
				t.Error(thread, o, ok)
			}
			b.run(thread)
		}
	}
	if s := b.x.State(); s.Tick != 15 || told(s) != "0: 0.1>-1[]; 2: 2.1>-1[]; 3: 3.0>-1[] fault 6; holder 0 0; queue 0 [0]" {
		t.Error(s.Tick, told(s))
	}
}

// P15.1: Run does what Step does, a pick after the other.
func TestRun(t *testing.T) {
	r := maker{rand.New(rand.NewPCG(15, 1))}
	for range 300 {
		m := r.module()
		in, out := r.numbers(len(m.Inputs)), r.numbers(len(m.Hatches))
		b := begin(t, m, in, out)
		var picks []int
		for range r.IntN(90) {
			picks = append(picks, r.IntN(len(m.Threads)))
		}
		before := slices.Clone(picks)
		if e := b.x.Run(picks...); e != api.OK || !slices.Equal(picks, before) {
			t.Fatal(e)
		}
		for _, thread := range before {
			b.m.step(thread)
		}
		b.hold()
	}
}

// P15.1 and P15.2: made code, whose threads are picked by chance, against the model; all that an operation can come to is met.
func TestModel(t *testing.T) {
	r := maker{rand.New(rand.NewPCG(15, 2))}
	met := map[string]int{}
	for range 3000 {
		m := r.module()
		if !code.Right(m) {
			t.Fatalf("%+v", m)
		}
		b := begin(t, m, r.numbers(len(m.Inputs)), r.numbers(len(m.Hatches)))
		for range 30 * len(m.Threads) {
			thread := r.IntN(len(m.Threads))
			for range 3 {
				if b.m.ended(thread) || b.m.blocked(thread) {
					thread = r.IntN(len(m.Threads))
				}
			}
			b.tick(thread, met)
		}
	}
	wanted := map[string]string{
		"binary": "1", "new": "4", "make": "3 4", "get": "2 7 torn", "put": "2 7", "index": "3 7 wild", "elem": "3 7 wild", "cut": "3", "load": "torn", "unlock": "6", "call": "5 deep",
		"lock": "blocked", "send": "blocked", "recv": "blocked", "return": "last inner",
	}
	for _, form := range kinds[1:] {
		for _, what := range append([]string{"0"}, strings.Fields(wanted[form[0]])...) {
			if met[form[0]+" "+what] < 5 {
				t.Error(form[0], what, met[form[0]+" "+what])
			}
		}
	}
}

// tick: a tick of a thread; what it has come to is counted.
func (b both) tick(thread int, met map[string]int) {
	b.t.Helper()
	o, ok := b.m.next(thread)
	if !ok {
		b.run(thread)
		return
	}
	name := kinds[o.Kind][0] + " "
	if b.m.blocked(thread) {
		met[name+"blocked"]++
		b.run(thread)
		return
	}
	before := b.m.State
	b.run(thread)
	after := b.x.State()
	t := after.Threads[thread]
	met[name+fmt.Sprint(t.Fault)]++
	for what, so := range map[string]bool{
		"torn": after.Torn && !before.Torn, "wild": after.Wild && !before.Wild, "deep": len(t.Frames) > 4 && t.Fault == 0,
		"last": len(t.Frames) == 0, "inner": len(t.Frames) > 0 && t.Fault == 0,
	} {
		if so {
			met[name+what]++
		}
	}
}

// P15.3: what is handed in is as it was, what lies behind it in its memory too, and isn't kept.
func TestHandedIn(t *testing.T) {
	r := maker{rand.New(rand.NewPCG(15, 3))}
	for range 200 {
		m := r.module()
		in, out := r.numbers(len(m.Inputs)), r.numbers(len(m.Hatches))
		want := copied(m, slices.Clone)
		m = copied(m, room)
		open := copied(m, whole)
		b := begin(t, want, slices.Clone(in), slices.Clone(out))
		in, out = append(in, 77)[:len(in)], append(out, 77)[:len(out)]
		x, e := machine.New(m, in, out)
		if e != api.OK || !reflect.DeepEqual(copied(m, whole), open) || in[:cap(in)][len(in)] != 77 || out[:cap(out)][len(out)] != 77 {
			t.Fatal(e, "changed")
		}
		b.x = x
		for i := range in {
			in[i] = 99
		}
		for i := range out {
			out[i] = 99
		}
		spoil(m)
		for range 60 {
			b.run(r.IntN(len(want.Threads)))
		}
	}
}

// room: the same list, with something in its memory behind its end.
func room(list []int) []int { return append(slices.Clone(list), 77)[:len(list)] }

// whole: a copy of a list that goes to the end of its memory.
func whole(list []int) []int { return slices.Clone(list[:cap(list)]) }

// copied: code whose lists are all copies.
func copied(m api.Module, list func([]int) []int) api.Module {
	m.Globals, m.Structs, m.Chans, m.Threads = slices.Clone(m.Globals), slices.Clone(m.Structs), slices.Clone(m.Chans), list(m.Threads)
	m.Funcs = slices.Clone(m.Funcs)
	for i := range m.Funcs {
		m.Funcs[i].Code = slices.Clone(m.Funcs[i].Code)
		for k, o := range m.Funcs[i].Code {
			m.Funcs[i].Code[k].Args = list(o.Args)
		}
	}
	return m
}

// spoil changes all that code has in lists.
func spoil(m api.Module) {
	for _, list := range [][]api.Sized{m.Globals, m.Structs, m.Chans} {
		for i := range list {
			list[i].Size = 0
		}
	}
	for i := range m.Threads {
		m.Threads[i] = 99
	}
	for i := range m.Funcs {
		for k := range m.Funcs[i].Code {
			fill(m.Funcs[i].Code[k].Args, 99)
			m.Funcs[i].Code[k] = api.Op{Kind: 99}
		}
		m.Funcs[i] = api.Func{Regs: -1}
	}
}

// fill writes all of a list's memory, and what lies behind its length.
func fill[T any](list []T, with T) {
	room := list[:cap(list)]
	for i := range room {
		room[i] = with
	}
}

// spoilState changes all that a state has in lists, and what lies behind them.
func spoilState(s api.State) {
	for _, t := range s.Threads {
		for _, f := range t.Frames {
			fill(f.Regs, -99)
		}
		fill(t.Frames, api.Frame{Func: -99})
	}
	for i := range s.Arenas {
		fill(s.Arenas[i], api.Word{V: -99})
		fill(s.Objects[i], api.Object{At: -99})
	}
	for _, q := range s.Queues {
		fill(q, -99)
	}
	fill(s.Threads, api.Thread{Fault: -99})
	fill(s.Globals, api.Word{V: -99})
	fill(s.Arenas, nil)
	fill(s.Objects, nil)
	fill(s.Holders, -99)
	fill(s.Queues, nil)
	fill(s.Events, api.Event{Tick: -99})
}

// P15.3 and P2: what is answered is new memory: nothing that is written into it is seen by the machine or by another answer, and it stays as it was.
func TestAnswers(t *testing.T) {
	r := maker{rand.New(rand.NewPCG(15, 4))}
	for range 200 {
		m := r.module()
		b := begin(t, m, r.numbers(len(m.Inputs)), r.numbers(len(m.Hatches)))
		for range 50 {
			thread := r.IntN(len(m.Threads))
			first, second := b.x.State(), b.x.State()
			want := sample.Copied(second)
			spoilState(first)
			o, _ := b.x.Next(thread)
			again, _ := b.x.Next(thread)
			wantOp := fmt.Sprint(again)
			fill(o.Args, 99)
			b.hold()
			b.run(thread)
			if !same(second, want) || fmt.Sprint(again) != wantOp {
				t.Fatal("an answer has changed")
			}
		}
	}
}

// Rule 8 and P2: two machines of one code have nothing in common; the same calls have the same answers.
func TestApart(t *testing.T) {
	r := maker{rand.New(rand.NewPCG(15, 5))}
	for range 100 {
		m := r.module()
		in, out := r.numbers(len(m.Inputs)), r.numbers(len(m.Hatches))
		a, b := begin(t, m, in, out), begin(t, m, in, out)
		var picks []int
		for range 60 {
			picks = append(picks, r.IntN(len(m.Threads)))
			a.run(picks[len(picks)-1])
		}
		b.hold()
		b.run(picks...)
		if !same(a.x.State(), b.x.State()) {
			t.Error("another state")
		}
		a.hold()
	}
}

// P1: code of which one number is another is run as it is, or not at all.
func TestAnyCode(t *testing.T) {
	r := maker{rand.New(rand.NewPCG(15, 6))}
	counts := map[api.Errno]int{}
	for range 4000 {
		m := copied(r.module(), slices.Clone)
		o := &m.Funcs[r.IntN(len(m.Funcs))].Code[0]
		*[]*int{&o.A, &o.B, &o.C, &o.D, &o.K, &o.Next, &o.Else, &o.Kind, &m.Threads[0], &m.Funcs[0].Regs, &m.Funcs[0].Params, &m.Structs[0].Size}[r.IntN(12)] = r.number()
		in, out := r.numbers(len(m.Inputs)), r.numbers(len(m.Hatches))
		x, e := machine.New(m, in, out)
		counts[e]++
		if (e == api.OK) != code.Right(m) || (x == nil) != (e == api.ErrCode) {
			t.Fatalf("%d: %+v", e, m)
		}
		if e == api.OK {
			b := begin(t, m, in, out)
			for range 20 {
				b.run(r.IntN(len(m.Threads)))
			}
		}
	}
	if counts[api.OK] < 500 || counts[api.ErrCode] < 500 {
		t.Error("the code is all of one sort", counts)
	}
}
