package machine_test

import (
	"slices"

	"portcullis/api"
	"portcullis/sample"
)

// model is a machine told by the chapter's words alone: all that it is stands in a state, and what has a fault is taken back whole.
type model struct {
	api.State
	code            api.Module
	inputs, hatches []int
}

func modelOf(m api.Module, inputs, hatches []int) *model {
	x := &model{code: m, inputs: inputs, hatches: hatches}
	for _, f := range m.Threads {
		x.Threads = append(x.Threads, api.Thread{Frames: []api.Frame{{Func: f, To: -1, Regs: make([]int, m.Funcs[f].Regs)}}})
	}
	for _, g := range m.Globals {
		x.Globals = append(x.Globals, make([]api.Word, g.Size)...)
	}
	x.Arenas, x.Objects = make([][]api.Word, len(m.Threads)), make([][]api.Object, len(m.Threads))
	for range m.Locks {
		x.Holders = append(x.Holders, -1)
	}
	x.Queues = make([][]int, len(m.Chans))
	return x
}

// same: are two states the same, whatever lists without elements are?
func same(a, b api.State) bool {
	calls := func(a, b api.Frame) bool {
		return a.Func == b.Func && a.Pc == b.Pc && a.To == b.To && slices.Equal(a.Regs, b.Regs)
	}
	threads := func(a, b api.Thread) bool {
		return slices.EqualFunc(a.Frames, b.Frames, calls) && a.Fault == b.Fault && a.Store == b.Store && a.Load == b.Load
	}
	return a.Tick == b.Tick && slices.EqualFunc(a.Threads, b.Threads, threads) && slices.Equal(a.Globals, b.Globals) &&
		slices.EqualFunc(a.Arenas, b.Arenas, slices.Equal) && slices.EqualFunc(a.Objects, b.Objects, slices.Equal) &&
		slices.Equal(a.Holders, b.Holders) && slices.EqualFunc(a.Queues, b.Queues, slices.Equal) &&
		slices.Equal(a.Events, b.Events) && a.Stores == b.Stores && a.Torn == b.Torn && a.Wild == b.Wild
}

// next: the next operation of a thread that hasn't ended.
func (x *model) next(thread int) (api.Op, bool) {
	if thread < 0 || thread >= len(x.Threads) || x.ended(thread) {
		return api.Op{}, false
	}
	last := x.Threads[thread].Frames[len(x.Threads[thread].Frames)-1]
	return x.code.Funcs[last.Func].Code[last.Pc], true
}

func (x *model) ended(thread int) bool {
	if thread < 0 || thread >= len(x.Threads) {
		return false
	}
	return x.Threads[thread].Fault != 0 || len(x.Threads[thread].Frames) == 0
}

func (x *model) blocked(thread int) bool {
	o, ok := x.next(thread)
	return ok && (o.Kind == api.OLock && x.Holders[o.A] != -1 ||
		o.Kind == api.OSend && len(x.Queues[o.A]) == x.code.Chans[o.A].Size ||
		o.Kind == api.ORecv && len(x.Queues[o.B]) == 0)
}

// step: a tick of a thread that is there; the fault that it has had now.
func (x *model) step(thread int) int {
	before := sample.Copied(x.State)
	broken := 0
	if o, ok := x.next(thread); ok && !x.blocked(thread) {
		broken = x.do(thread, o)
	}
	if broken != 0 {
		x.State = before
		x.Threads[thread].Fault = broken
	}
	x.Tick++
	return broken
}

// do does an operation; with a fault it leaves things as they happen to be.
func (x *model) do(thread int, o api.Op) int {
	t := &x.Threads[thread]
	last := &t.Frames[len(t.Frames)-1]
	was, regs := slices.Clone(last.Regs), last.Regs
	where := *last
	last.Pc = o.Next
	switch o.Kind {
	case api.OConst:
		regs[o.A] = o.K
	case api.OInput:
		regs[o.A] = x.inputs[o.B]
	case api.ORelease:
		regs[o.A] = x.hatches[o.B]
	case api.OMove:
		regs[o.A] = was[o.B]
	case api.OUnary:
		regs[o.A] = map[int]int{api.UNeg: 0 - was[o.B], api.UNot: flag(was[o.B] == 0)}[o.K]
	case api.OBinary:
		if was[o.C] == 0 && (o.K == api.BDiv || o.K == api.BRem) {
			return api.FDivide
		}
		regs[o.A] = operate(o.K, was[o.B], was[o.C])
	case api.ONew, api.OMake:
		size := was[o.C]
		if o.Kind == api.ONew {
			size = x.code.Structs[o.B].Size
		} else if size < 0 {
			return api.FBounds
		}
		if size > 64-len(x.Arenas[thread]) {
			return api.FArena
		}
		regs[o.A] = x.made(thread, size, where)
		if o.Kind == api.OMake {
			regs[o.B] = size
		}
	case api.OCut:
		if was[o.E] < 0 || was[o.E] > was[o.F] || was[o.F] > was[o.D] {
			return api.FBounds
		}
		regs[o.A], regs[o.B] = was[o.C]+was[o.E], was[o.F]-was[o.E]
		if regs[o.B] == 0 {
			regs[o.A] = 0
		}
	case api.OIf:
		if was[o.A] == 0 {
			last.Pc = o.Else
		}
	case api.OLoad, api.OStore, api.OGet, api.OPut, api.OIndex, api.OElem:
		return x.touch(t, o, was, regs)
	case api.OLock, api.OUnlock, api.OSend, api.ORecv, api.OOut:
		return x.share(thread, o, was, regs)
	case api.OCall:
		if len(t.Frames) == 8 {
			return api.FFrames
		}
		f := api.Frame{Func: o.A, To: o.B, Regs: make([]int, x.code.Funcs[o.A].Regs)}
		for i, r := range o.Args {
			f.Regs[i] = was[r]
		}
		t.Frames = append(t.Frames, f)
	case api.OReturn:
		t.Frames = t.Frames[:len(t.Frames)-1]
		for i, r := range o.Args {
			if where.To >= 0 {
				t.Frames[len(t.Frames)-1].Regs[where.To+i] = was[r]
			}
		}
	}
	return 0
}

// flag: 1, if something is so.
func flag(so bool) int { return map[bool]int{true: 1}[so] }

// operate: an operator with two operands that has no fault.
func operate(k, a, b int) int {
	switch k {
	case api.BAdd:
		return a + b
	case api.BSub:
		return a - b
	case api.BMul:
		return a * b
	case api.BDiv:
		return a / b
	case api.BRem:
		return a % b
	}
	return flag(map[int]bool{api.BAnd: a != 0 && b != 0, api.BOr: a != 0 || b != 0, api.BLess: a < b, api.BMost: a <= b, api.BSame: a == b, api.BNe: a != b}[k])
}

// made: the address of an object that there is room for; 0 of size 0.
func (x *model) made(thread, size int, where api.Frame) int {
	at := len(x.Arenas[thread])
	if size == 0 {
		return 0
	}
	x.Arenas[thread] = append(x.Arenas[thread], make([]api.Word, size)...)
	x.Objects[thread] = append(x.Objects[thread], api.Object{At: at, Size: size, Func: where.Func, Op: where.Pc})
	return 1 + thread*64 + at
}

// word: the word at an address, nil if none is in use; and where its object begins.
func (x *model) word(addr int) (*api.Word, int) {
	for thread, words := range x.Arenas {
		for _, o := range x.Objects[thread] {
			first := 1 + thread*64 + o.At
			if addr >= first && addr < first+o.Size {
				return &words[addr-1-thread*64], first
			}
		}
	}
	return nil, -1
}

// touch does what loads or stores.
func (x *model) touch(t *api.Thread, o api.Op, was, regs []int) int {
	var w *api.Word
	first := 0
	switch o.Kind {
	case api.OLoad:
		w = &x.Globals[o.B]
	case api.OStore:
		w = &x.Globals[o.A]
	case api.OGet, api.OPut:
		register, number := o.B, o.C
		if o.Kind == api.OPut {
			register, number = o.A, o.B
		}
		object := was[register]
		if object == 0 {
			return api.FNil
		}
		w, _ = x.word(object + number)
	default:
		slice := was[o.B]
		length, index := was[o.C], was[o.D]
		if o.Kind == api.OElem {
			slice, length, index = was[o.A], was[o.B], was[o.C]
		}
		if index < 0 || index >= length {
			return api.FBounds
		}
		w, first = x.word(slice + index)
		_, begin := x.word(slice)
		x.Wild = x.Wild || begin != first
	}
	if w == nil {
		return api.FWild
	}
	switch o.Kind {
	case api.OLoad, api.OGet:
		regs[o.A] = w.V
		x.Torn = x.Torn || o.K == 1 && w.Store != t.Load
		if o.K == 0 {
			t.Load = w.Store
		}
	case api.OIndex:
		regs[o.A] = w.V
	case api.OElem:
		x.Stores++
		*w = api.Word{V: was[o.D], Store: x.Stores}
	default:
		if o.K == 0 {
			x.Stores++
			t.Store = x.Stores
		}
		from := map[int]int{api.OStore: o.B, api.OPut: o.C}[o.Kind]
		*w = api.Word{V: was[from], Store: t.Store}
	}
	return 0
}

// share does what others wait for, or are told.
func (x *model) share(thread int, o api.Op, was, regs []int) int {
	switch o.Kind {
	case api.OLock:
		x.Holders[o.A] = thread
	case api.OUnlock:
		if x.Holders[o.A] != thread {
			return api.FHeld
		}
		x.Holders[o.A] = -1
	case api.OSend:
		x.Queues[o.A] = append(x.Queues[o.A], was[o.B])
	case api.ORecv:
		regs[o.A] = x.Queues[o.B][0]
		x.Queues[o.B] = x.Queues[o.B][1:]
	case api.OOut:
		x.Events = append(x.Events, api.Event{Tick: x.Tick, Thread: thread, Sink: o.A, Value: was[o.B]})
	}
	return 0
}
