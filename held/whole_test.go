package held_test

import (
	"math/rand/v2"
	"slices"
	"testing"

	"portcullis/api"
	"portcullis/code"
	"portcullis/machine"
	"portcullis/sample"
)

// run is a machine of code, and what was found of that.
type run struct {
	t   *testing.T
	m   api.Module
	h   api.Held
	x   *machine.Machine
	met map[string]int // how many threads were held against it, by what they held
}

func runOf(t *testing.T, m api.Module, h api.Held, met map[string]int) run {
	return run{t, m, h, sample.Begun(m), met}
}

// tick: a tick of a thread; ahead of it all that threads hold is held against what was found.
func (r run) tick(thread int) {
	r.t.Helper()
	r.hold()
	if e := r.x.Step(thread); e != api.OK {
		r.t.Fatal(e)
	}
}

// hold: each thread that comes to an operation next holds all of its must, and none but those of its may.
func (r run) hold() {
	r.t.Helper()
	s := r.x.State()
	for thread, now := range s.Threads {
		if _, comes := r.x.Next(thread); !comes {
			continue
		}
		call := now.Frames[len(now.Frames)-1]
		must, may := r.h.Must[thread][call.Func][call.Pc], r.h.May[thread][call.Func][call.Pc]
		has := 0
		for lock, holder := range s.Holders {
			if holder == thread {
				has |= 1 << lock
			}
		}
		if must < 0 || may < 0 || must&^has != 0 || has&^may != 0 {
			text, _ := code.Show(r.m)
			r.t.Fatalf("tick %d, thread %d at %d of %d: %d, %s is found\n%s", s.Tick, thread, call.Pc, call.Func, has, word(must, may), text)
		}
		r.count("some", has != 0)
		r.count("sure", must != 0)
		r.count("least", must != may && has == must)
		r.count("most", must != may && has == may)
		r.count("between", has != must && has != may)
		r.count("called", has != 0 && len(now.Frames) > 1)
	}
}

func (r run) count(what string, is bool) {
	if is {
		r.met[what]++
	}
}

// enough: each thing was met as often as is told, at least.
func enough(t *testing.T, met map[string]int, some, sure, least, most, between, called int) {
	t.Helper()
	for what, want := range map[string]int{"some": some, "sure": sure, "least": least, "most": most, "between": between, "called": called} {
		if met[what] < want {
			t.Error(what, met[what], want)
		}
	}
}

// P18.2: programs by hand: in all orders of two threads, and by turns.
func TestHands(t *testing.T) {
	const ahead = "input i ; sink o ; lock a ; lock b ; lock c ; chan q 1 ; var g int ; func f ( ) { lock b ; } func h ( n int ) { if ( 0 < n ) { lock c ; call h ( ( n / 2 ) ) ; unlock c ; } unlock b ; } "
	met := map[string]int{}
	for _, text := range []string{
		"thread t { lock a ; lock b ; unlock a ; unlock b ; } thread u { lock b ; lock a ; unlock b ; unlock a ; }",
		"thread t { lock a ; if ( g == 0 ) { lock b ; } unlock a ; unlock b ; } thread u { lock a ; set g = 1 ; unlock a ; unlock a ; }",
		"thread t { call f ( ) ; call h ( 0 ) ; unlock b ; } thread u { lock a ; call f ( ) ; unlock a ; }",
		"thread t { lock a ; lock a ; } thread u { lock b ; out o ( 1 / ( i - 3 ) ) ; lock c ; }",
		"thread t { while ( g < 2 ) { lock a ; set g = ( g + 1 ) ; } } thread u { while true { lock b ; unlock b ; unlock a ; } }",
		"thread t { lock a ; send q 1 ; send q 1 ; unlock a ; } thread u { var x int = 0 ; recv q x ; lock a ; recv q x ; }",
	} {
		m := sample.Lowered(ahead + text)
		h := find(t, m)
		sample.Orders(7, 7, func(picks []int) {
			r := runOf(t, m, h, met)
			for _, thread := range append(slices.Clone(picks), 0, 1, 1, 0) {
				r.tick(thread)
			}
			r.hold()
		})
	}
	enough(t, met, 20000, 20000, 20000, 5000, 0, 2000)
	for _, text := range []string{
		"thread t { lock b ; call h ( i ) ; } thread u { lock a ; call f ( ) ; call h ( 0 ) ; unlock a ; call f ( ) ; call h ( i ) ; } thread v { lock a ; while ( g < 3 ) { set g = ( g + 1 ) ; if ( g == 2 ) { lock c ; } } unlock a ; }",
		"func r ( n int ) int { lock a ; if ( n < 1 ) { return 0 ; } unlock a ; var x int = 0 ; call x = r ( ( n - 1 ) ) ; unlock a ; lock c ; unlock c ; lock a ; return x ; } thread t { var x int = 0 ; call x = r ( i ) ; unlock a ; } thread u { while true { lock a ; unlock a ; } }",
		"func r ( ) { lock a ; unlock a ; call r ( ) ; } thread t { lock b ; call r ( ) ; } thread u { lock c ; call r ( ) ; } thread v { lock a ; lock b ; lock c ; unlock a ; }",
	} {
		m := sample.Lowered(ahead + text)
		for step := range 12 {
			r := runOf(t, m, find(t, m), met)
			for tick := range 400 {
				r.tick(tick / (1 + step) % len(m.Threads))
			}
		}
	}
}

// P18.2: made code, of which much is about locks, and programs of all sorts, whose threads are picked by chance.
func TestChance(t *testing.T) {
	r := rand.New(rand.NewPCG(18, 2))
	met := map[string]int{}
	for seed := range uint64(3000) {
		m := sample.Code(seed, often[:seed%8]...)
		if seed%5 == 0 {
			m = sample.Lowered(sample.Program(seed, 0))
		}
		x := runOf(t, m, find(t, m), met)
		for range 25 * len(m.Threads) {
			x.tick(r.IntN(len(m.Threads)))
		}
	}
	enough(t, met, 20000, 20000, 5000, 5000, 500, 2000)
}

// great: code of four threads that all run the first of functions with these operations.
func great(funcs ...[]api.Op) api.Module {
	m := api.Module{Locks: make([]string, 8), Threads: make([]int, 4)}
	for _, ops := range funcs {
		m.Funcs = append(m.Funcs, api.Func{Regs: 1, Code: ops})
	}
	return m
}

// holdAll: what all threads hold at each operation of a function is as it is told.
func holdAll(t *testing.T, h api.Held, fn int, want func(op int) (int, int)) {
	t.Helper()
	for thread := range h.Must {
		for op := range h.Must[thread][fn] {
			must, may := want(op)
			if got := word(h.Must[thread][fn][op], h.May[thread][fn][op]); got != word(must, may) {
				t.Fatalf("thread %d at %d of %d: %s, want %s", thread, op, fn, got, word(must, may))
			}
		}
	}
}

// P18.1, P1: a row of as many operations as may be, which can be gone back step by step. First all locks are taken behind its end; then each is taken from a place of its own, and the row begins again.
func TestLongRow(t *testing.T) {
	const long = 4087
	row := make([]api.Op, long)
	for i := range row {
		row[i] = api.Op{Kind: api.OIf, Next: i + 1, Else: max(i-1, 0)}
	}
	for lock := range 8 {
		row = append(row, api.Op{Kind: api.OLock, A: lock, Next: long + lock + 1})
	}
	row = append(row, api.Op{Kind: api.OReturn})
	holdAll(t, find(t, great(row)), 0, func(op int) (int, int) {
		taken := 1<<max(0, op-long) - 1
		return taken, taken
	})
	for lock := range 8 {
		row[500*lock].Else, row[long+lock].Next = long+lock, 0
	}
	row[long-1].Next = long - 2
	holdAll(t, find(t, great(row)), 0, func(op int) (int, int) {
		if op == len(row)-1 {
			return -1, -1
		}
		return 0, 255
	})
}

// P18.1, P1: very many calls of a function that returns in very many places.
func TestManyCalls(t *testing.T) {
	const many = 680
	var calls, backs []api.Op
	for i := range many {
		calls = append(calls, api.Op{Kind: api.OCall, A: 1, B: -1, Next: 3*i + 1}, api.Op{Kind: api.OLock, A: 3, Next: 3*i + 2}, api.Op{Kind: api.OUnlock, A: 4, Next: 3*i + 3})
		backs = append(backs, api.Op{Kind: api.OIf, Next: 3*i + 1, Else: 3 * (i + 1) % (3 * many)}, api.Op{Kind: api.OLock, A: i % 8, Next: 3*i + 2}, api.Op{Kind: api.OReturn})
	}
	h := find(t, great(append(calls, api.Op{Kind: api.OReturn}), backs))
	holdAll(t, h, 0, func(op int) (int, int) {
		switch {
		case op == 0:
			return 0, 0
		case op%3 == 0:
			return 8, 255 - 16
		}
		return []int{0, 0, 8}[op%3], 255
	})
	holdAll(t, h, 1, func(op int) (int, int) {
		if op%3 == 2 {
			lock := 1 << (op / 3 % 8)
			return lock, 255 - 16 | lock
		}
		return 0, 255 - 16
	})
}

// P18.1, P1: functions that all call one another from very many places, and take a lock of their own at their ends.
func TestAllCallAll(t *testing.T) {
	const many = 169
	var funcs [][]api.Op
	for fn := range 12 {
		ops := make([]api.Op, 2*many)
		for i := range many {
			ops[i] = api.Op{Kind: api.OIf, Next: i + 1, Else: many + i}
			ops[many+i] = api.Op{Kind: api.OCall, A: (fn + i) % 12, B: -1, Next: many + i + 1}
		}
		ops[many-1].Next = 2 * many
		funcs = append(funcs, append(ops, api.Op{Kind: api.OLock, A: fn % 8, Next: 2*many + 1}, api.Op{Kind: api.OReturn}))
	}
	m := great(funcs...)
	m.Threads = []int{0, 5, 11, 11}
	h := find(t, m)
	for fn := range 12 {
		holdAll(t, h, fn, func(op int) (int, int) {
			if op == 2*many+1 {
				return 1 << (fn % 8), 255
			}
			return 0, 255
		})
	}
}
