package machine

import (
	"portcullis/api"
	"portcullis/word"
)

// turn is a thread that hasn't ended, and what it does next: its last call, and the operation.
type turn struct {
	*Machine
	number int
	thread *api.Thread
	call   *api.Frame
	op     api.Op
}

func (m *Machine) turn(thread int) turn {
	t := &m.threads[thread]
	call := &t.Frames[len(t.Frames)-1]
	return turn{m, thread, t, call, m.funcs[call.Func].Code[call.Pc]}
}

// done does the operation; the fault that it has, 0 without one.
func (t turn) done() (broken int) {
	defer func() {
		thrown := recover()
		if f, ok := thrown.(fault); ok {
			broken = int(f)
		} else if thrown != nil {
			panic(thrown)
		}
	}()
	switch t.op.Kind {
	case api.OCall:
		t.enter()
	case api.OReturn:
		t.leave()
	default:
		t.work()
		t.call.Pc = t.next()
	}
	return 0
}

// next: where a call goes on that stays the last one.
func (t turn) next() int {
	if t.op.Kind == api.OIf && t.reg(t.op.A) == 0 {
		return t.op.Else
	}
	return t.op.Next
}

func (t turn) reg(n int) int { return t.call.Regs[n] }

// args: the words of the registers Args.
func (t turn) args() []int {
	var words []int
	for _, n := range t.op.Args {
		words = append(words, t.reg(n))
	}
	return words
}

// enter: a call more.
func (t turn) enter() {
	if len(t.thread.Frames) >= api.MaxFrames {
		panic(fault(api.FFrames))
	}
	t.call.Pc = t.op.Next
	t.thread.Frames = append(t.thread.Frames, t.frame(t.op.A, t.op.B, t.args()...))
}

// leave: the last call is gone.
func (t turn) leave() {
	result, to := t.args(), t.call.To
	ahead := t.thread.Frames[:len(t.thread.Frames)-1]
	t.thread.Frames = ahead
	if to != nowhere {
		copy(ahead[len(ahead)-1].Regs[to:], result)
	}
}

// work does what an operation does but for where it goes on.
func (t turn) work() {
	switch o := t.op; o.Kind {
	case api.OStore:
		t.globals[o.A] = t.stored(t.thread, o.K, t.reg(o.B))
	case api.OPut:
		_, addr := t.field(t.reg(o.A), o.B)
		t.Store(addr, t.stored(t.thread, o.K, t.reg(o.C)))
	case api.OElem:
		_, addr := t.element(t.reg(o.A), t.reg(o.B), t.reg(o.C))
		t.Store(addr, api.Word{V: t.reg(o.D), Store: t.fresh()})
	case api.OMake:
		t.newSlice(t.reg(o.C))
	case api.OCut:
		t.cut(t.reg(o.C), t.reg(o.D), t.reg(o.E), t.reg(o.F))
	case api.OLock:
		t.locks.Take(o.A, t.number)
	case api.OUnlock:
		if !t.locks.Drop(o.A, t.number) {
			panic(fault(api.FHeld))
		}
	case api.OSend:
		t.queues[o.A].Put(t.reg(o.B))
	case api.OOut:
		t.events = append(t.events, api.Event{Tick: t.tick, Thread: t.number, Sink: o.A, Value: t.reg(o.B)})
	case api.OIf:
	default:
		t.call.Regs[o.A] = t.word()
	}
}

// word: what an operation gives that gives one word, to the register A.
func (t turn) word() int {
	switch o := t.op; o.Kind {
	case api.OConst:
		return o.K
	case api.OInput:
		return t.inputs[o.B]
	case api.ORelease:
		return t.hatches[o.B]
	case api.OMove:
		return t.reg(o.B)
	case api.OUnary:
		v, _ := word.Unary(o.K, t.reg(o.B))
		return v
	case api.OBinary:
		v, broken := word.Binary(o.K, t.reg(o.B), t.reg(o.C))
		if broken != 0 {
			panic(fault(broken))
		}
		return v
	case api.OLoad:
		return t.loaded(t.thread, o.K, t.globals[o.B])
	case api.ONew:
		return t.newObject(t.structs[o.B])
	case api.OGet:
		w, _ := t.field(t.reg(o.B), o.C)
		return t.loaded(t.thread, o.K, w)
	case api.OIndex:
		w, _ := t.element(t.reg(o.B), t.reg(o.C), t.reg(o.D))
		return w.V
	case api.ORecv:
		v, _ := t.queues[o.B].Get()
		return v
	}
	return 0
}

// newObject: the address of an object more, which names the operation.
func (t turn) newObject(size int) int {
	addr, ok := t.Make(t.number, size, t.call.Func, t.call.Pc)
	if !ok {
		panic(fault(api.FArena))
	}
	return addr
}

// newSlice: a slice with an object of its own.
func (t turn) newSlice(length int) {
	if length < 0 {
		panic(fault(api.FBounds))
	}
	t.slice(t.newObject(length), length)
}

// cut: a slice from one place of another to a second.
func (t turn) cut(begin, length, from, to int) {
	if from < 0 || from > to || to > length {
		panic(fault(api.FBounds))
	}
	// An empty slice begins nowhere, wherever it was cut.
	if from == to {
		begin, from, to = 0, 0, 0
	}
	t.slice(begin+from, to-from)
}

// slice gives two words, to the registers A and B.
func (t turn) slice(begin, length int) {
	t.call.Regs[t.op.A], t.call.Regs[t.op.B] = begin, length
}
