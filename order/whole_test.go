package order_test

import (
	"fmt"
	"math/rand/v2"
	"slices"
	"strings"
	"testing"

	"portcullis/api"
	"portcullis/machine"
	"portcullis/order"
	"portcullis/sample"
	"portcullis/watch"
)

// run is a machine of code, and what was found of that.
type run struct {
	t     *testing.T
	what  any // what is told, if a test fails
	m     api.Module
	edges [][2]int
	ranks []int
	clean bool // is nothing told of the code?
	x     *machine.Machine
	met   map[string]int // what was seen
}

// kept is what is found of code, ahead of all its runs.
func kept(t *testing.T, what any, m api.Module, met map[string]int) run {
	t.Helper()
	r := run{t: t, what: what, m: m, edges: find(t, m), clean: len(order.Check(m)) == 0, met: met}
	ranks, ok := order.Ranks(len(m.Locks), r.edges...)
	if r.clean && !ok {
		t.Fatalf("no ranks, where nothing is told: %v", what)
	}
	r.ranks = ranks
	return r
}

// run: a machine runs by a row of picks.
func (r run) run(picks ...int) {
	r.t.Helper()
	r.x = sample.Begun(r.m)
	for _, thread := range picks {
		r.look()
		if e := r.x.Step(thread); e != api.OK {
			r.t.Fatal(e)
		}
	}
	r.look()
}

// look: what is seen now mustn't be seen, where nothing is told; and what threads are about to take is held against what was found.
func (r run) look() {
	r.t.Helper()
	s := r.x.State()
	seen := watch.Look(r.m, s)
	if r.clean && (len(seen.Ring) > 0 || len(seen.Bad) > 0) {
		r.t.Fatalf("tick %d: %v %v, where nothing is told: %v", s.Tick, seen.Ring, seen.Bad, r.what)
	}
	count(r.met, fmt.Sprint("ring of ", len(seen.Ring)), true)
	count(r.met, "bad", len(seen.Bad) > 0)
	for thread := range s.Threads {
		o, comes := r.x.Next(thread)
		for lock, holder := range s.Holders {
			if comes && o.Kind == api.OLock && holder == thread {
				r.hold(lock, o.A)
			}
		}
		count(r.met, "waits", r.clean && comes && o.Kind == api.OLock && slices.Contains(s.Holders, thread) && r.x.Blocked(thread))
	}
}

// hold: a thread that holds a lock is about to take another one.
func (r run) hold(from, to int) {
	r.t.Helper()
	if !slices.Contains(r.edges, [2]int{from, to}) {
		r.t.Fatalf("%d to %d isn't in %v: %v", from, to, r.edges, r.what)
	}
	if len(r.ranks) > 0 && r.ranks[from] >= r.ranks[to] {
		r.t.Fatalf("%d to %d: %v: %v", from, to, r.ranks, r.what)
	}
	count(r.met, "rises", r.clean)
}

// P20.4: programs by hand, in all orders of two threads: in some of them what must never be seen is seen, where something is told; where nothing is told, it isn't in any.
func TestHands(t *testing.T) {
	const ahead = "lock a ; lock b ; lock c ; chan q 1 ; var g int ; sink o ; func f ( ) { lock b ; unlock b ; } func h ( ) { unlock a ; } "
	for text, seen := range map[string]string{
		"thread t { lock a ; lock b ; } thread u { lock b ; lock a ; }":                                                             "ring of 2",
		"thread t { lock a ; lock b ; unlock a ; unlock b ; } thread u { lock b ; lock a ; unlock a ; unlock b ; }":                 "ring of 2",
		"thread t { lock a ; lock b ; unlock a ; unlock b ; } thread u { lock a ; lock b ; unlock b ; unlock a ; }":                 "",
		"thread t { lock a ; lock b ; unlock b ; unlock a ; } thread u { lock b ; lock c ; unlock b ; unlock c ; }":                 "",
		"thread t { lock a ; lock a ; } thread u { lock a ; unlock a ; }":                                                           "ring of 1",
		"thread t { lock a ; unlock a ; lock a ; unlock a ; } thread u { lock a ; }":                                                "",
		"thread t { lock a ; } thread u { unlock a ; }":                                                                             "bad",
		"thread t { lock a ; unlock a ; unlock a ; } thread u { lock a ; unlock a ; }":                                              "bad",
		"thread t { lock a ; call f ( ) ; unlock a ; } thread u { lock b ; lock a ; unlock a ; unlock b ; }":                        "ring of 2",
		"thread t { lock a ; call f ( ) ; unlock a ; } thread u { lock a ; unlock a ; call f ( ) ; }":                               "",
		"thread t { lock a ; call h ( ) ; } thread u { lock a ; lock c ; call h ( ) ; unlock c ; }":                                 "",
		"thread t { lock a ; call h ( ) ; call h ( ) ; } thread u { lock a ; call h ( ) ; }":                                        "bad",
		"thread t { if ( g == 0 ) { lock a ; } unlock a ; } thread u { set g = 1 ; }":                                               "bad",
		"thread t { while true { lock a ; } } thread u { lock b ; unlock b ; }":                                                     "ring of 1",
		"thread t { lock a ; send q 1 ; lock b ; unlock b ; unlock a ; } thread u { lock b ; lock a ; unlock a ; unlock b ; }":      "ring of 2",
		"thread t { lock a ; out o ( 1 / g ) ; unlock a ; } thread u { lock a ; lock b ; unlock a ; unlock b ; }":                   "",
		"thread t { lock b ; if ( g == 1 ) { lock a ; } lock c ; } thread u { set g = 1 ; lock a ; if ( g == 1 ) { lock b ; } }":    "ring of 2",
		"thread t { lock b ; lock a ; unlock b ; lock c ; unlock a ; } thread u { lock c ; unlock c ; lock b ; lock a ; lock c ; }": "",
	} {
		met := map[string]int{}
		r := kept(t, text, sample.Lowered(ahead+text), met)
		if r.clean != (seen == "") {
			t.Errorf("%v: %s", r.clean, text)
		}
		sample.Orders(8, 6, func(picks []int) {
			r.run(append(slices.Clone(picks), 0, 1, 1, 0)...)
		})
		if seen != "" && met[seen] == 0 {
			t.Errorf("%v: %s", met, text)
		}
	}
}

// P20.4: rings of two to four threads, in many orders of their first ticks; with the last one's locks the other way round there are none.
func TestRings(t *testing.T) {
	for threads := 2; threads <= 4; threads++ {
		for _, clean := range []bool{false, true} {
			var funcs []string
			numbers := []int{0, 1, 2, 3}[:threads]
			for i := range numbers {
				first, second := i, (i+1)%threads
				if clean {
					first, second = min(first, second), max(first, second)
				}
				funcs = append(funcs, fmt.Sprintf("0 0: lock %d; lock %d; unlock %d; unlock %d; return", first, second, first, second))
			}
			met := map[string]int{}
			r := kept(t, funcs, codeOf(numbers, funcs...), met)
			for round := range 1 << (3 * threads) {
				var picks []int
				for left := round; left > 0; left /= threads {
					picks = append(picks, left%threads)
				}
				r.run(append(picks, slices.Repeat(numbers, 3)...)...)
			}
			ring := fmt.Sprint("ring of ", threads)
			if r.clean != clean || (met[ring] > 0) == clean || clean && met["waits"] == 0 {
				t.Error(threads, clean, met)
			}
		}
	}
}

// taker makes texts whose threads take locks.
type taker struct {
	r     *rand.Rand
	row   []string // the locks, in the order in which they are taken, unless something slips
	slips int      // one of so many deeds slips; 0: none
}

// text: a program, whose locks are declared in another order.
func (k taker) text() string {
	last := k.row[len(k.row)-1]
	text := "input most ; sink log ; var count int ; "
	for _, n := range k.r.Perm(len(k.row)) {
		text += "lock " + k.row[n] + " ; "
	}
	text += fmt.Sprintf("func work ( ) { lock %s ; set count = ( count + 1 ) ; unlock %s ; } ", last, last)
	for thread := range 2 + k.r.IntN(3) {
		text += fmt.Sprint("thread t", thread, " { ")
		works := k.r.IntN(3)
		for n := range 1 + k.r.IntN(3) {
			// What is held at one call comes back at all others, so there is one.
			text += k.deed(n == works)
		}
		text += "} "
	}
	return text
}

// deed: some locks are taken, work is done or not, and the locks are given back; all perhaps, or again and again.
func (k taker) deed(works bool) string {
	slip := k.slips > 0 && k.r.IntN(k.slips) == 0
	text, back := k.take(k.chosen(slip))
	if works {
		text += k.one("call work ( ) ; ", "if ( count < most ) { call work ( ) ; } ", "out log count ; ")
	}
	text += k.drop(back, slip)
	return strings.ReplaceAll(k.one("ALL", "ALL", "if ( count < 3 ) { ALL} ", "while ( count < 4 ) { ALL} "), "ALL", text)
}

// chosen: some of the locks but the last one, in order, or, by a slip, perhaps not.
func (k taker) chosen(slip bool) []string {
	var locks []string
	for _, lock := range k.row[:len(k.row)-1] {
		if k.r.IntN(2) == 0 {
			locks = append(locks, lock)
		}
	}
	if slip && k.r.IntN(2) == 0 {
		k.r.Shuffle(len(locks), func(i, n int) { locks[i], locks[n] = locks[n], locks[i] })
	}
	return locks
}

// take: locks are taken; some are given back ahead of the last ones. Those that are left are told.
func (k taker) take(locks []string) (string, []string) {
	text := ""
	var left []string
	for _, lock := range locks {
		text += "lock " + lock + " ; "
		left = append(left, lock)
		if n := k.r.IntN(len(left)); k.r.IntN(4) == 0 {
			text += "unlock " + left[n] + " ; "
			left = slices.Delete(left, n, n+1)
		}
	}
	return text, left
}

// drop: locks are given back, in any order; by a slip perhaps one too many, or one too few.
func (k taker) drop(locks []string, slip bool) string {
	k.r.Shuffle(len(locks), func(i, n int) { locks[i], locks[n] = locks[n], locks[i] })
	if slip && k.r.IntN(2) == 0 {
		locks = append(locks, k.row[0])
	}
	if slip && len(locks) > 0 && k.r.IntN(3) == 0 {
		locks = locks[1:]
	}
	text := ""
	for _, lock := range locks {
		text += "unlock " + lock + " ; "
	}
	return text
}

// one of some texts.
func (k taker) one(texts ...string) string { return texts[k.r.IntN(len(texts))] }

// P20.4: programs that hardly do anything but take locks, in order, and some that slip once in a while; and programs of all sorts, whose threads are picked by chance.
func TestChance(t *testing.T) {
	r := rand.New(rand.NewPCG(20, 4))
	met := map[string]int{}
	for seed := range uint64(1000) {
		row := strings.Split("abcdefgh", "")[:2+r.IntN(7)]
		r.Shuffle(len(row), func(i, k int) { row[i], row[k] = row[k], row[i] })
		text := taker{r, row, []int{0, 0, 4, 2}[seed%4]}.text()
		if seed%10 == 9 {
			text = sample.Program(seed, 0)
		}
		one := kept(t, text, sample.Lowered(text), met)
		if !one.clean && seed%4 < 2 && seed%10 < 9 {
			t.Fatalf("%v: %s", order.Check(one.m), text)
		}
		one.chance(r, 4)
	}
	enough(t, met, map[string]int{"true": 500, "false": 200, "rises": 20000, "waits": 5000, "ring of 1": 1000, "ring of 2": 1000, "ring of 3": 100, "bad": 3000})
}

// chance: so many runs by picks that are made by chance.
func (r run) chance(by *rand.Rand, runs int) {
	r.t.Helper()
	count(r.met, fmt.Sprint(r.clean), true)
	for range runs {
		var picks []int
		for range 30 * len(r.m.Threads) {
			picks = append(picks, by.IntN(len(r.m.Threads)))
		}
		r.run(picks...)
	}
}

// P20.4: made code, as it comes, and such that goes on forward alone.
func TestMadeRuns(t *testing.T) {
	r := rand.New(rand.NewPCG(20, 5))
	met := map[string]int{}
	for seed := range uint64(2000) {
		m := sample.Code(seed, often[:seed%8]...)
		if seed%4 > 0 {
			m.Locks = make([]string, 8)
			spread(m, r)
			straighten(m, r)
		}
		kept(t, seed, m, met).chance(r, 2)
	}
	enough(t, met, map[string]int{"true": 500, "false": 500, "rises": 500, "waits": 20, "ring of 1": 1000, "ring of 2": 100, "bad": 3000})
}

// P20.1, P20.3, P1: code as great as may be, that is about locks alone.
func TestGreat(t *testing.T) {
	var ops []api.Op
	for i := range 4095 {
		ops = append(ops, api.Op{Kind: api.OLock, A: i % 8, Next: i + 1, At: -i})
	}
	m := codeOf([]int{0, 0, 0, 0})
	m.Funcs = []api.Func{{Code: append(ops, api.Op{Kind: api.OReturn})}}
	diags := order.Check(m)
	if edges := find(t, m); len(edges) != 64 || len(diags) != 4094 {
		t.Fatal(len(edges), len(diags))
	}
	for i, d := range diags {
		if want := (api.Diag{At: i - 4094, Code: api.ErrCycle, Name: m.Locks[(4094-i)%8]}); d != want {
			t.Fatal(d, want)
		}
	}
	for i := range ops {
		ops[i].Kind, ops[i].At = api.OUnlock, i%2
	}
	m.Funcs[0].Code = append(ops, api.Op{Kind: api.OReturn})
	hold(t, m, "", "held a, held c, held e, held g|held b, held d, held f, held h")
}
