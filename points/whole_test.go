package points_test

import (
	"fmt"
	"math/rand/v2"
	"slices"
	"strings"
	"testing"

	"portcullis/api"
	"portcullis/machine"
	"portcullis/sample"
)

// run is a machine of a text's code, and what was found of that.
type run struct {
	t    *testing.T
	text string
	m    api.Module
	p    api.Points
	x    *machine.Machine
	met  map[int]int // how many operations of each kind have named an object
}

// begun: a machine of a text's code at the tick 0.
func begun(t *testing.T, text string, met map[int]int) run {
	t.Helper()
	m := sample.Lowered(text)
	return run{t, text, m, find(t, m), sample.Begun(m), met}
}

// tick: a tick of a thread, if nothing was torn or wild yet; ahead of it all threads' next operations are held against what was found.
func (r run) tick(thread int) bool {
	r.t.Helper()
	s := r.x.State()
	if s.Torn || s.Wild {
		return false
	}
	for i := range s.Threads {
		r.hold(s, i)
	}
	return r.x.Step(thread) == api.OK
}

// hold: the object that a thread's next operation names was made where the register's set tells it.
func (r run) hold(s api.State, thread int) {
	r.t.Helper()
	o, ok := r.x.Next(thread)
	if !ok {
		return
	}
	call := s.Threads[thread].Frames[len(s.Threads[thread].Frames)-1]
	register, length, index := named(o)
	if register < 0 || call.Regs[register] == 0 {
		return
	}
	if length >= 0 && (call.Regs[index] < 0 || call.Regs[index] >= call.Regs[length]) {
		return
	}
	site := sample.Maker(s, call.Regs[register])
	number := slices.Index(r.p.Sites, site)
	if number < 0 || !slices.Contains(r.p.Regs[thread][call.Func][register], number) {
		r.t.Fatalf("%q: thread %d names by %+v what was made at %+v (%d): %s", r.text, thread, o, site, number, told(r.p))
	}
	r.met[o.Kind]++
}

// named: the register by which an operation names an object or a slice, and those of the slice's length and of the index; -1, where there is none.
func named(o api.Op) (int, int, int) {
	switch o.Kind {
	case api.OGet:
		return o.B, -1, -1
	case api.OPut:
		return o.A, -1, -1
	case api.OIndex:
		return o.B, o.C, o.D
	case api.OElem:
		return o.A, o.B, o.C
	}
	return -1, -1, -1
}

// P17.2: programs by hand, whose objects go by globals, fields, calls and slices, in all orders of two threads or by turns.
func TestPrograms(t *testing.T) {
	const ahead = "struct n { v int ; next * n ; s [ ] int ; } sink o ; lock l ; var p * n ; var q * n ; var s [ ] int ; "
	met := map[int]int{}
	for _, text := range []string{
		"thread a { set p = new n ; set p . v = 3 ; } thread b { if ( p != nil ) { out o p . v ; set p . next = new n ; } }",
		"thread a { lock l ; set s = make ( 3 ) ; set s [ 1 ] = 2 ; unlock l ; } thread b { lock l ; if ( 1 < len ( s ) ) { out o s [ 1 ] ; } unlock l ; }",
		"thread a { set s = make ( 2 ) ; } thread b { set s [ 0 ] = 1 ; out o s [ 1 ] ; }",
	} {
		sample.Orders(7, 7, func(picks []int) {
			r := begun(t, ahead+text, met)
			for _, thread := range append(slices.Clone(picks), 0, 1, 0, 1, 0, 1, 0, 1, 1, 1, 1) {
				r.tick(thread)
			}
		})
	}
	for _, text := range []string{
		"func f ( x * n , k int ) * n { if ( k < 1 ) { return x ; } var y * n = new n ; set y . next = x ; call y = f ( y , ( k - 1 ) ) ; return y ; } thread a { var x * n = nil ; call x = f ( nil , 5 ) ; while ( x != nil ) { set x . v = 1 ; out o x . v ; set x = x . next ; } }",
		"func f ( x * n ) [ ] int { return x . s [ 1 : 3 ] ; } thread a { set p = new n ; set p . s = make ( 4 ) ; var r [ ] int = s ; call r = f ( p ) ; set r [ 1 ] = 7 ; out o p . s [ 2 ] ; set s = r [ 1 : 2 ] ; out o s [ 0 ] ; } thread b { while ( len ( s ) < 1 ) { } out o s [ 0 ] ; }",
		"thread a { set p = new n ; set p . next = p ; set q = p . next . next ; set q . v = 2 ; set q . next = new n ; set p . next . v = 4 ; } thread b { while ( q == nil ) { } set q . next . next = q ; out o p . next . next . v ; } thread c { while ( p == nil ) { } set p . s = make ( 1 ) ; set p . s [ 0 ] = 5 ; }",
		"func f ( ) * n { return new n ; } thread a { lock l ; call f ( ) ; set p = q ; unlock l ; lock l ; if ( p != nil ) { out o p . v ; } unlock l ; } thread b { var x * n = nil ; call x = f ( ) ; lock l ; set q = x ; unlock l ; set x . v = 1 ; lock l ; if ( p != nil ) { set p . v = 3 ; } unlock l ; }",
	} {
		for step := range 12 {
			r := begun(t, ahead+text, met)
			for tick := range 400 {
				r.tick(tick / (1 + step) % len(r.m.Threads))
			}
		}
	}
	for _, kind := range []int{api.OGet, api.OPut, api.OIndex, api.OElem} {
		if met[kind] < 300 {
			t.Error(kind, met[kind])
		}
	}
}

// web: the text of a program whose threads link objects, and slices, with one another by chance.
func web(r *rand.Rand) string {
	text := "struct n { f * n ; g * n ; s [ ] int ; } sink o ; var p * n ; var q * n ; var z [ ] int ; func h ( a * n , b [ ] int ) * n { var x * n = a ; var y * n = nil ; var w [ ] int = b ; "
	names, slices := strings.Fields("p q x y"), strings.Fields("z w")
	name := func() string { return names[r.IntN(len(names))] }
	part := func() string { return name() + []string{"", " . f", " . g"}[r.IntN(3)] }
	slice := func() string {
		return []string{slices[r.IntN(2)], name() + " . s", "make ( 3 )", slices[r.IntN(2)] + " [ 1 : 2 ]"}[r.IntN(4)]
	}
	some := func(most int) {
		for range r.IntN(most) {
			text += []string{
				"set " + name() + " = new n ; ",
				"set " + part() + " = " + part() + " ; ",
				"set " + name() + " . s = " + slice() + " ; ",
				"set " + slices[r.IntN(2)] + " = " + slice() + " ; ",
				"set " + slice() + " [ 0 ] = 1 ; ",
				"out o " + slice() + " [ 0 ] ; ",
				"if ( " + part() + " == nil ) { set " + name() + " = new n ; } ",
				"call " + names[2+r.IntN(2)] + " = h ( " + part() + " , " + slice() + " ) ; ",
			}[r.IntN(8)]
		}
	}
	some(10)
	text += "return " + part() + " ; } "
	for i := range 3 {
		text += fmt.Sprint("thread t", i, " { var x * n = new n ; var y * n = x ; var w [ ] int = make ( 2 ) ; set p = x ; set q = x ; set z = w ; ")
		some(20)
		text += "} "
	}
	return text
}

// P17.2: programs of all sorts, and such that hardly do anything but link objects, whose threads are picked by chance.
func TestSamples(t *testing.T) {
	r := rand.New(rand.NewPCG(17, 2))
	met := map[int]int{}
	for seed := range uint64(600) {
		text := web(r)
		if seed%3 == 0 {
			text = sample.Program(seed, 0)
		}
		x := begun(t, text, met)
		for range 60 * len(x.m.Threads) {
			if !x.tick(r.IntN(len(x.m.Threads))) {
				break
			}
		}
	}
	for _, kind := range []int{api.OGet, api.OPut, api.OIndex, api.OElem} {
		if met[kind] < 1000 {
			t.Error(kind, met[kind])
		}
	}
}

// to: the numbers from one to another.
func to(first, last int) []int {
	var list []int
	for n := first; n <= last; n++ {
		list = append(list, n)
	}
	return list
}

// great: code of one function with as many operations as may be at most, whose places are right whatever they are.
func great(threads int, ops ...api.Op) api.Module {
	m := api.Module{Globals: []api.Sized{{Size: 2}}, Structs: []api.Sized{{Size: 16}}, Threads: make([]int, threads)}
	m.Funcs = []api.Func{{Regs: 1024, Code: append(ops, api.Op{Kind: api.OReturn})}}
	return m
}

// P17.1, P1: all objects point to all.
func TestAllToAll(t *testing.T) {
	ops := slices.Repeat([]api.Op{{Kind: api.ONew}}, 600)
	m := great(4, append(ops, api.Op{Kind: api.OStore}, api.Op{Kind: api.OLoad}, api.Op{Kind: api.OPut, B: 7}, api.Op{Kind: api.OGet, A: 1, C: 7})...)
	p := find(t, m)
	every := to(0, 2399)
	for site, words := range p.Fields {
		for n, set := range words {
			if n == 7 && !slices.Equal(set, every) || n != 7 && len(set) > 0 {
				t.Fatal(site, n, len(set))
			}
		}
	}
	for thread := range 4 {
		if regs := p.Regs[thread][0]; !slices.Equal(regs[0], every) || !slices.Equal(regs[1], every) || len(regs[2]) > 0 {
			t.Error(thread)
		}
	}
}

// P17.1, P1: a long list, of which each object is found behind the one ahead of it; told from its end, too.
func TestLongList(t *testing.T) {
	const long = 500
	var made, linked, walked []api.Op
	for i := range long {
		made = append(made, api.Op{Kind: api.ONew, A: i})
		linked = append(linked, api.Op{Kind: api.OPut, A: i, B: i % 16, C: (i + 1) % long})
		walked = append(walked, api.Op{Kind: api.OGet, A: long + (i+1)%long, B: long + i, C: i % 16})
	}
	begin := api.Op{Kind: api.OMove, A: long}
	for range 2 {
		p := find(t, great(1, slices.Concat(walked, linked, made, []api.Op{begin})...))
		for i := range long {
			number := slices.Index(p.Sites, api.Site{Op: slices.IndexFunc(slices.Concat(walked, linked, made), func(o api.Op) bool { return o.Kind == api.ONew && o.A == i })})
			if got := p.Regs[0][0][long+i]; !slices.Equal(got, []int{number}) {
				t.Fatal(i, got, number)
			}
		}
		slices.Reverse(walked)
		slices.Reverse(made)
	}
}

// P17.1, P1: a walk with one register along a long list comes to hold all of it, and a row of moves takes all of that on, whichever way they are told.
func TestLongWalk(t *testing.T) {
	const long = 500
	var ops, moves []api.Op
	for i := range long {
		ops = append(ops, api.Op{Kind: api.ONew, A: i}, api.Op{Kind: api.OPut, A: i, C: (i + 1) % long})
		moves = append(moves, api.Op{Kind: api.OMove, A: long + 1 + i, B: long + i})
	}
	ops = append(ops, api.Op{Kind: api.OMove, A: long}, api.Op{Kind: api.OGet, A: long, B: long})
	for range 2 {
		p := find(t, great(2, append(ops, moves...)...))
		for i := range long + 1 {
			if !slices.Equal(p.Regs[0][0][long+i], to(0, long-1)) || !slices.Equal(p.Regs[1][0][long+i], to(long, 2*long-1)) {
				t.Fatal(i)
			}
		}
		slices.Reverse(moves)
	}
}

// P17.1, P1: very many calls of a function that returns in very many places.
func TestManyCalls(t *testing.T) {
	calls := slices.Repeat([]api.Op{{Kind: api.OCall, A: 1, B: 3, K: 2, Args: []int{0, 1}}}, 2000)
	m := great(4, append(calls, api.Op{Kind: api.ONew}, api.Op{Kind: api.ONew, A: 1})...)
	backs := slices.Repeat([]api.Op{{Kind: api.OReturn, Args: []int{1, 0}}}, 2000)
	m.Funcs = append(m.Funcs, api.Func{Params: 2, Regs: 2, Result: 2, Code: backs})
	p := find(t, m)
	for thread := range 4 {
		first, second := []int{2 * thread}, []int{2*thread + 1}
		caller, called := p.Regs[thread][0], p.Regs[thread][1]
		if !slices.Equal(caller[3], second) || !slices.Equal(caller[4], first) || !slices.Equal(called[0], first) || !slices.Equal(called[1], second) {
			t.Error(thread, told(p))
		}
	}
}

// P1: code with as many operations as may be, of all kinds that move objects.
func TestMostCode(t *testing.T) {
	r := rand.New(rand.NewPCG(17, 1))
	kinds := []int{api.ONew, api.OMove, api.OMove, api.OLoad, api.OStore, api.OGet, api.OPut, api.OCall}
	for _, regs := range []int{3, 40, 300} {
		m := api.Module{Globals: []api.Sized{{Size: 2}}, Structs: []api.Sized{{}}, Threads: []int{0, 0, 0, 0}}
		for fn := range 8 {
			f := api.Func{Regs: regs, Result: min(fn, 1)}
			for range 511 {
				o := api.Op{Kind: kinds[r.IntN(len(kinds))], A: r.IntN(regs), B: r.IntN(regs), C: r.IntN(regs)}
				switch o.Kind {
				case api.ONew:
					o.B, o.C = 0, 0
				case api.OMove:
					o.C = 0
				case api.OLoad:
					o.B, o.C = r.IntN(2), 0
				case api.OStore:
					o.A, o.C = r.IntN(2), 0
				case api.OGet:
					o.C = 0
				case api.OPut:
					o.B = 0
				case api.OCall:
					o.A, o.C, o.K = 1+r.IntN(7), 0, 1
				}
				f.Code = append(f.Code, o)
			}
			f.Code = append(f.Code, api.Op{Kind: api.OReturn, Args: make([]int, f.Result)})
			m.Funcs = append(m.Funcs, f)
		}
		if p := find(t, m); len(p.Sites) < 1500 || len(p.Globals[0]) < 100 {
			t.Error(len(p.Sites), len(p.Globals[0]))
		}
	}
}
