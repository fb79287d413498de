package held

import "portcullis/api"

// end stands for an operation to which all OReturns of a function lead: calls are far fewer than their pairs with returns.
const end = -1

// spot is an operation of a function, or the function's end.
type spot struct{ fn, op int }

// locks are those that a thread holds for sure, and those that it may hold, a bit each.
type locks struct{ must, may int }

// walker goes wherever a thread may come.
type walker struct {
	funcs   []api.Func
	callers map[int][]spot
	held    map[spot]locks // of each spot to which the thread has come
	work    []spot         // those from which it hasn't gone on since they changed
}

// walk goes from a function's beginning until nothing changes.
func (w *walker) walk(first int) {
	w.come(spot{first, 0}, locks{})
	for len(w.work) > 0 {
		last := len(w.work) - 1
		from := w.work[last]
		w.work = w.work[:last]
		if from.op == end {
			w.back(from)
		} else {
			w.goOn(from)
		}
	}
}

// come comes to a spot with locks.
func (w *walker) come(to spot, with locks) {
	was, met := w.held[to]
	if met {
		with = locks{was.must & with.must, was.may | with.may}
	}
	if met && with == was {
		return
	}
	w.held[to] = with
	w.work = append(w.work, to)
}

// back goes from a function's end to wherever it was called from.
func (w *walker) back(from spot) {
	for _, call := range w.callers[from.fn] {
		if _, met := w.held[call]; met {
			w.come(w.next(call), w.held[from])
		}
	}
}

// goOn goes from an operation to all that may come behind it.
func (w *walker) goOn(from spot) {
	now := w.held[from]
	switch o := w.op(from); o.Kind {
	case api.OLock:
		lock := 1 << o.A
		w.come(w.next(from), locks{now.must | lock, now.may | lock})
	case api.OUnlock:
		lock := 1 << o.A
		w.come(w.next(from), locks{now.must &^ lock, now.may &^ lock})
	case api.OIf:
		w.come(w.next(from), now)
		w.come(spot{from.fn, o.Else}, now)
	case api.OCall:
		w.come(spot{o.A, 0}, now)
		if then, met := w.held[spot{o.A, end}]; met {
			w.come(w.next(from), then)
		}
	case api.OReturn:
		w.come(spot{from.fn, end}, now)
	default:
		w.come(w.next(from), now)
	}
}

// op: the operation at a spot.
func (w *walker) op(at spot) api.Op { return w.funcs[at.fn].Code[at.op] }

// next: the spot behind one.
func (w *walker) next(at spot) spot { return spot{at.fn, w.op(at).Next} }
