package order_test

import (
	"math"
	"math/rand/v2"
	"reflect"
	"slices"
	"strings"
	"testing"

	"portcullis/api"
	"portcullis/code"
	"portcullis/order"
	"portcullis/sample"
)

// P20.1, P20.3: what is taken while what may be held, and what is given back: of one thread. "|" goes on to the next operation.
func TestOperations(t *testing.T) {
	for _, c := range []struct{ text, edges, want string }{
		{"", "", ""},
		{"lock 0", "", ""},
		{"lock 0; unlock 0; lock 0; unlock 0", "", ""},
		// Edges.
		{"lock 0; lock 1", "01", ""},
		{"lock 1; lock 0", "10", ""},
		{"lock 0; lock 7", "07", ""},
		{"lock 7; lock 0", "70", ""},
		{"lock 0; unlock 0; lock 1", "", ""},
		{"lock 0; lock 1; lock 2; unlock 0; lock 3", "01,02,12,13,23", ""},
		{"lock 2; unlock 2; lock 3; lock 1; unlock 3; lock 0", "10,31", ""},
		{"lock 7; lock 6; lock 5; lock 4; lock 3; lock 2; lock 1; lock 0", "10,20,21,30,31,32,40,41,42,43,50,51,52,53,54,60,61,62,63,64,65,70,71,72,73,74,75,76", ""},
		{"if 0 > 1 | 2; lock 3; lock 4", "34", ""},
		{"if 0 > 1 | 3; lock 3; const 0 0 > 4; lock 2; lock 1", "21,31", ""},
		{"lock 1; if 0 > 2 | 3; unlock 1; lock 0", "10", ""},
		{"lock 1; if 0 > 2 | 3; const 0 0; unlock 1; lock 0", "", ""},
		// Edges by which locks lead to themselves.
		{"lock 0; lock 0", "00", "|cycle a"},
		{"lock 7; lock 7", "77", "|cycle h"},
		{"if 0 > 1 | 2; lock 3; lock 3", "33", "||cycle d"},
		{"lock 0; if 0 > 2 | 3; unlock 0; lock 0", "00", "|||cycle a"},
		{"lock 4; if 0 > 0 | 2", "44", "cycle e"},
		{"lock 0; lock 1; unlock 0; lock 0", "01,10", "|cycle b||cycle a"},
		{"lock 0; lock 1; unlock 0; unlock 1; lock 1; lock 0", "01,10", "|cycle b||||cycle a"},
		{"lock 0; lock 1; unlock 0; lock 2; unlock 1; lock 0", "01,12,20", "|cycle b||cycle c||cycle a"},
		{"lock 0; lock 1; unlock 0; lock 2; unlock 1; lock 3; lock 0", "01,12,20,23,30", "|cycle b||cycle c||cycle d|cycle a"},
		{"lock 0; lock 1; unlock 0; lock 2; lock 1", "01,11,12,21", "|||cycle c|cycle b"},
		{"lock 2; lock 0; lock 1; unlock 0; unlock 2; lock 0; lock 3", "01,03,10,13,20,21", "||cycle b|||cycle a"},
		{"lock 0; lock 1; lock 2; unlock 1; unlock 0; lock 1; lock 3", "01,02,12,13,21,23", "||cycle c|||cycle b"},
		// What leads on by others that are held, too.
		{"lock 0; lock 1; lock 2; unlock 0; lock 0", "01,02,10,12,20", "|cycle b|cycle c||cycle a"},
		// What is given back.
		{"unlock 0", "", "held a"},
		{"unlock 7", "", "held h"},
		{"lock 0; unlock 1", "", "|held b"},
		{"lock 0; unlock 0; unlock 0", "", "||held a"},
		{"unlock 3; lock 3; unlock 3", "", "held d"},
		{"lock 0; lock 1; unlock 0; unlock 1", "01", ""},
		{"if 0 > 1 | 2; lock 0; unlock 0", "", "||held a"},
		{"lock 0; if 0 > 2 | 3; unlock 0; unlock 0", "", "|||held a"},
		{"if 0 > 1 | 3; lock 0; const 0 0 > 4; lock 0; unlock 0", "", ""},
		{"lock 2; lock 0; lock 2; unlock 1; unlock 0; unlock 0", "02,20,22", "|cycle a|cycle c|held b||held a"},
		{"lock 0; unlock 0 > 1", "", "|held a"},
		// Where nobody comes.
		{"return; lock 0; lock 0", "", ""},
		{"return; unlock 0", "", ""},
		{"lock 1; const 0 0 > 3; lock 1; lock 0", "10", ""},
		{"lock 0 > 2; unlock 1", "", ""},
		// Others with the same numbers.
		{"lock 1; const 2 5; input 2 1; release 2 1; move 2 0; unary 2 0 1; binary 2 1 2 3; load 2 1 1; store 1 0 0; new 2 0; make 2 3 2; get 2 1 15 0; put 2 15 1 1; index 2 1 2 3; elem 2 1 2 3; cut 2 1 2 3 0 1; send 0 1; recv 2 0; out 1 1; if 2 > 20 | 20; lock 0", "10", ""},
	} {
		hold(t, codeOf([]int{0}, "0 0:"+strings.TrimPrefix(c.text+"; return", "; ")), c.edges, c.want)
	}
}

// P20.1, P20.3: several threads, and calls; places are the operations' numbers in their own functions.
func TestThreads(t *testing.T) {
	for _, c := range []struct {
		threads     []int
		edges, want string
		funcs       []string
	}{
		{nil, "", "", []string{"0 0: lock 0; lock 0; unlock 1; return"}},
		{[]int{0, 1}, "01,10", "|cycle b||cycle a", []string{"0 0: lock 0; lock 1; return", "0 0: lock 1; const 0 0; const 0 0; lock 0; return"}},
		{[]int{0, 1}, "01,10", "|cycle a, cycle b", []string{"0 0: lock 0; lock 1; return", "0 0: lock 1; lock 0; return"}},
		{[]int{0, 1}, "01,12", "", []string{"0 0: lock 0; lock 1; return", "0 0: lock 1; lock 2; return"}},
		{[]int{0, 1, 2}, "01,12,20", "|cycle b|cycle c|cycle a", []string{"0 0: lock 0; lock 1; return", "0 0: lock 1; const 0 0; lock 2; return", "0 0: lock 2; const 0 0; const 0 0; lock 0; return"}},
		{[]int{0, 1, 2, 3}, "03,12,20,31", "|cycle d|cycle c|cycle a|cycle b", []string{"0 0: lock 0; lock 3; return", "0 0: lock 1; const 0 0; lock 2; return", "0 0: lock 2; const 0 0; const 0 0; lock 0; return", "0 0: lock 3; const 0 0; const 0 0; const 0 0; lock 1; return"}},
		{[]int{0, 0, 0, 0}, "01", "", []string{"0 0: lock 0; lock 1; unlock 1; unlock 0; return"}},
		{[]int{0, 0, 0, 0}, "00", "|cycle a||held a", []string{"0 0: lock 0; lock 0; unlock 0; unlock 0; return"}},
		// A thread has only what it takes itself.
		{[]int{0, 1}, "", "held a", []string{"0 0: lock 0; return", "0 0: unlock 0; return"}},
		{[]int{0, 1}, "", "", []string{"0 0: lock 0; return", "0 0: lock 1; return"}},
		{[]int{1}, "10", "", []string{"0 0: lock 0; lock 1; return", "0 0: lock 1; lock 0; return"}},
		// Calls.
		{[]int{0}, "01", "", []string{"0 0: lock 0; call 1 -1 0; return", "0 0: lock 1; return"}},
		{[]int{0}, "01", "", []string{"0 0: call 1 -1 0; lock 1; return", "0 0: lock 0; return"}},
		{[]int{0}, "", "", []string{"0 0: lock 0; call 1 -1 0; return", "0 0: unlock 0; return"}},
		{[]int{0, 1}, "", "held a", []string{"0 0: lock 0; call 1 -1 0; return", "0 0: unlock 0; return"}},
		{[]int{0}, "01,02,21,22", "||cycle c|cycle c", []string{"0 0: lock 0; call 1 -1 0; lock 2; call 1 -1 0; return", "0 0: lock 1; unlock 1; if 0 > 3 | 4; lock 2; return"}},
		{[]int{0}, "11", "cycle b", []string{"0 0: call 1 -1 0; call 1 -1 0; return", "0 0: lock 1; return"}},
		{[]int{0}, "00", "cycle a", []string{"0 0: lock 0; call 0 -1 0; unlock 0; return"}},
		{[]int{0}, "00", "cycle a||||held a", []string{"0 0: lock 0; if 0 > 2 | 3; call 0 -1 0; const 0 0; unlock 0; return"}},
		{[]int{0}, "03", "||held d", []string{"0 0: lock 0; call 1 0 1 r1; unlock 3; return", "1 1: if 0 > 1 | 2; lock 3; return r0"}},
		// Functions to which no thread comes.
		{[]int{0}, "", "", []string{"0 0: return; call 1 -1 0; return", "0 0: lock 0; lock 0; unlock 1; return"}},
		{[]int{0}, "", "", []string{"0 0: lock 0; return", "0 0: lock 1; lock 0; lock 1; unlock 2; return"}},
		{[]int{0}, "", "", []string{"0 0: lock 0; call 1 -1 0; lock 0; return", "0 0: const 0 0 > 0"}},
	} {
		hold(t, codeOf(c.threads, c.funcs...), c.edges, c.want)
	}
}

// P20.3: places may be any numbers; of one place codes stand in their order, then names, each once.
func TestSame(t *testing.T) {
	ops := "0 0: lock 1; lock 0; unlock 3; lock 1; unlock 2; lock 0; unlock 2; unlock 3; return"
	m := codeOf([]int{0, 0}, ops)
	hold(t, m, "00,01,10,11", "|cycle a|held d|cycle b|held c|cycle a|held c|held d")
	for i := range m.Funcs[0].Code {
		m.Funcs[0].Code[i].At = 2
	}
	hold(t, m, "00,01,10,11", "||held c, held d, cycle a, cycle b")
	m.Funcs[0].Code[3].At = 1
	hold(t, m, "00,01,10,11", "|cycle b|held c, held d, cycle a")
	m.Locks = []string{"z", "z", "", "z", "a"}
	hold(t, m, "00,01,10,11", "|cycle z|held, held z, cycle z")
	for i, at := range []int{7, math.MaxInt, -1, math.MinInt, 0, math.MaxInt, -1, -2, 0} {
		m.Funcs[0].Code[i].At = at
	}
	want := []api.Diag{{At: math.MinInt, Code: api.ErrCycle, Name: "z"}, {At: -2, Code: api.ErrHeld, Name: "z"}, {At: -1, Code: api.ErrHeld}, {At: -1, Code: api.ErrHeld, Name: "z"}, {Code: api.ErrHeld}, {At: math.MaxInt, Code: api.ErrCycle, Name: "z"}}
	if got := order.Check(m); !slices.Equal(got, want) {
		t.Error(got)
	}
	holdModel(t, m)
}

// P20.1, P20.3: code without locks, threads or anything else, and with as much as may be.
func TestEdges(t *testing.T) {
	halt := []api.Op{{Kind: api.OReturn}}
	hold(t, api.Module{Funcs: []api.Func{{Code: halt}}}, "", "")
	hold(t, api.Module{Funcs: []api.Func{{Code: halt}}, Threads: []int{0, 0, 0, 0}}, "", "")
	m := codeOf([]int{0}, "0 0: lock 0; unlock 0; unlock 0; return")
	m.Locks = []string{""}
	hold(t, m, "", "||held")
	most := codeOf([]int{11, 11, 0, 5}, slices.Repeat([]string{"0 0: lock 7; return"}, 12)...)
	most.Funcs[11].Code = sample.Ops("call 10 -1 0; lock 6; unlock 7; unlock 6; unlock 5; return")
	most.Funcs[10].Code = sample.Ops("call 9 -1 0; return")
	most.Funcs[5].Code[0].A = 2
	hold(t, most, "76", "||||held f")
}

// P20.3: programs by hand, with marks where what is wrong stands.
func TestPrograms(t *testing.T) {
	const ahead = "lock a ; lock b ; lock c ; sink o ; var g int ; "
	for text, want := range map[string]string{
		"thread t { }": "",
		"thread t { lock a ; @lock b ; } thread u { lock b ; @lock a ; }":                                                                                    "cycle b|cycle a",
		"thread t { lock a ; @lock b ; unlock b ; unlock a ; } thread u { lock b ; @lock a ; unlock a ; unlock b ; }":                                        "cycle b|cycle a",
		"thread t { lock a ; lock b ; lock c ; } thread u { lock a ; lock c ; unlock a ; } thread v { lock b ; lock c ; }":                                   "",
		"thread t { lock b ; @lock a ; } thread u { lock c ; @lock b ; } thread v { lock a ; @lock c ; }":                                                    "cycle a|cycle b|cycle c",
		"thread t { lock a ; unlock a ; @unlock a ; @unlock b ; lock b ; unlock b ; }":                                                                       "held a|held b",
		"thread t { if ( g < 1 ) { lock a ; } else { lock a ; } unlock a ; }":                                                                                "",
		"thread t { if ( g < 1 ) { lock a ; } if ( g < 1 ) { @unlock a ; } }":                                                                                "held a",
		"thread t { while ( g < 3 ) { lock a ; lock b ; unlock b ; unlock a ; } }":                                                                           "",
		"thread t { while ( g < 3 ) { lock a ; @lock b ; unlock a ; unlock b ; lock b ; @lock a ; unlock a ; unlock b ; } }":                                 "cycle b|cycle a",
		"thread t { while ( g < 3 ) { @lock a ; } @unlock a ; }":                                                                                             "cycle a|held a",
		"thread t { while true { @lock a ; @lock b ; unlock a ; } }":                                                                                         "cycle a|cycle b",
		"func f ( ) { lock b ; unlock b ; } thread t { lock a ; call f ( ) ; @lock c ; call f ( ) ; }":                                                       "cycle c",
		"func f ( ) { @lock b ; unlock b ; } thread t { lock a ; call f ( ) ; } thread u { lock b ; @lock a ; }":                                             "cycle b|cycle a",
		"func f ( ) { lock b ; } func h ( ) { unlock b ; } thread t { call f ( ) ; lock c ; call h ( ) ; } thread u { call f ( ) ; call h ( ) ; }":           "",
		"func f ( ) { lock b ; } func h ( ) { @unlock b ; } thread t { call f ( ) ; call h ( ) ; } thread u { call h ( ) ; call f ( ) ; }":                   "held b",
		"func f ( n int ) { @lock a ; if ( 0 < n ) { call f ( ( n - 1 ) ) ; } @unlock a ; } thread t { call f ( g ) ; }":                                     "cycle a|held a",
		"func f ( n int ) { lock a ; unlock a ; if ( 0 < n ) { call f ( ( n - 1 ) ) ; } } thread t { lock b ; call f ( g ) ; unlock b ; }":                   "",
		"thread t { return ; lock b ; lock a ; unlock c ; } thread u { lock a ; lock b ; }":                                                                  "",
		"thread t { lock a ; out o ( 1 / g ) ; lock b ; } thread u { if ( g < 1 ) { lock b ; unlock b ; } lock a ; out o 1 ; unlock a ; @unlock b ; }":       "held b",
		"thread t { lock a ; lock b ; unlock a ; lock c ; unlock b ; unlock c ; } thread u { lock a ; lock c ; unlock c ; unlock a ; lock b ; @unlock c ; }": "held c",
	} {
		_, marks := sample.Marked(text)
		text, _ := sample.Marked(ahead + text)
		for i := range marks {
			marks[i] += len(ahead)
		}
		m := sample.Lowered(text)
		if got, list := order.Check(m), sample.Wanted(want, marks); !slices.Equal(got, list) {
			t.Errorf("%q: %v, want %v", text, got, list)
		}
		holdModel(t, m)
	}
}

// holdWrong: nothing is found in code, and nothing is told of it.
func holdWrong(t *testing.T, what any, m api.Module) {
	t.Helper()
	if list, e := order.Find(m); e != api.ErrCode || len(list) > 0 || len(order.Check(m)) > 0 {
		t.Fatal(what, e, list, order.Check(m))
	}
}

// P20.1, P20.3: code that isn't right.
func TestWrongCode(t *testing.T) {
	for name, change := range map[string]func(m *api.Module){
		"nothing":  func(m *api.Module) { *m = api.Module{} },
		"lock":     func(m *api.Module) { m.Funcs[0].Code[0].A = 8 },
		"negative": func(m *api.Module) { m.Funcs[1].Code[0].A = -1 },
		"far":      func(m *api.Module) { m.Funcs[1].Code[1].A = 1 << 40 },
		"fewer":    func(m *api.Module) { m.Locks = m.Locks[:1] },
		"more":     func(m *api.Module) { m.Locks = make([]string, 9) },
		"next":     func(m *api.Module) { m.Funcs[0].Code[0].Next = 4 },
		"field":    func(m *api.Module) { m.Funcs[0].Code[0].B = 1 },
		"function": func(m *api.Module) { m.Threads[0] = 2 },
		"threads":  func(m *api.Module) { m.Threads = make([]int, 5) },
		"empty":    func(m *api.Module) { m.Funcs[1].Code = nil },
		"uncalled": func(m *api.Module) { m.Funcs = append(m.Funcs, api.Func{}) },
		"kind":     func(m *api.Module) { m.Funcs[0].Code[2].Kind = 0 },
		"args":     func(m *api.Module) { m.Funcs[0].Code[2].Args = []int{0} },
	} {
		m := codeOf([]int{0, 1}, "0 0: lock 0; lock 1; return", "0 0: lock 1; lock 0; unlock 2; return")
		hold(t, m, "01,10", "|cycle a, cycle b|held c")
		change(&m)
		holdWrong(t, name, m)
	}
}

// holdRanks holds the ranks of locks against what is told by hand: a digit each; "-", if they aren't there.
func holdRanks(t *testing.T, locks int, edges [][2]int, want string) {
	t.Helper()
	list, ok := order.Ranks(locks, edges...)
	got := ""
	for _, rank := range list {
		got += string(rune('0' + rank))
	}
	if !ok {
		got += "-"
	}
	if got != want {
		t.Errorf("%d locks, %d edges, %v: %s, want %s", locks, len(edges), edges[:min(len(edges), 20)], got, want)
	}
}

// P20.2: ranks by hand.
func TestRanks(t *testing.T) {
	for _, c := range []struct {
		locks       int
		edges, want string
	}{
		{0, "", ""},
		{1, "", "0"},
		{8, "", "00000000"},
		{2, "01", "01"},
		{2, "10", "10"},
		{3, "02", "001"},
		{3, "01 12", "012"},
		{3, "12 01", "012"},
		{3, "21 10", "210"},
		{3, "01 02 12", "012"},
		{3, "02 12", "001"},
		{3, "20 21", "110"},
		{4, "01 23", "0101"},
		{4, "02 12 23 03", "0012"},
		{5, "04 41 13", "02031"},
		{8, "01 12 23 34 45 56 67", "01234567"},
		{8, "67 56 45 34 23 12 01", "01234567"},
		{8, "76 65 54 43 32 21 10", "76543210"},
		{8, "10 21 32 43 54 65 76", "76543210"},
		{8, "07 73 35 51 16 62 24", "04627351"},
		{8, "70 60 50 40 30 20 10", "10000000"},
		{3, "01 01 01 12 12", "012"},
		// What isn't in order.
		{1, "00", "-"},
		{8, "77", "-"},
		{2, "01 10", "-"},
		{3, "01 12 20", "-"},
		{3, "01 22", "-"},
		{4, "01 23 32", "-"},
		{4, "03 12 21", "-"},
		{8, "01 12 23 34 45 56 67 70", "-"},
		{8, "70 67 56 45 34 23 12 01", "-"},
		{8, "01 12 23 34 45 56 67 76", "-"},
	} {
		holdRanks(t, c.locks, read(c.edges), c.want)
	}
}

// P20.2: numbers of locks that there can't be, and edges between what is no lock.
func TestWrongRanks(t *testing.T) {
	for _, locks := range []int{-1, -2, -8, 9, 10, 64, 1 << 32, 1<<32 + 2, math.MinInt, math.MaxInt} {
		holdRanks(t, locks, nil, "-")
		holdRanks(t, locks, read("01"), "-")
	}
	holdRanks(t, 0, read("00"), "-")
	for locks := range 9 {
		for _, wrong := range []int{-1, -8, locks, locks + 1, 8, 63, 64, 1 << 32, math.MinInt, math.MaxInt} {
			for other := range max(1, locks) {
				for _, e := range [][2]int{{wrong, other}, {other, wrong}, {wrong, wrong}} {
					holdRanks(t, locks, [][2]int{e}, "-")
					if locks > 1 {
						holdRanks(t, locks, [][2]int{{0, 1}, e}, "-")
						holdRanks(t, locks, [][2]int{{0, 1}, e, {0, 1}, {1, 0}}, "-")
					}
				}
			}
		}
	}
}

// holdModelRanks holds the ranks against the model, and tells whether they are there.
func holdModelRanks(t *testing.T, locks int, edges [][2]int) bool {
	t.Helper()
	got, ok := order.Ranks(locks, edges...)
	if want, is := ranks(locks, edges); !slices.Equal(got, want) || ok != is {
		t.Fatalf("%d locks, %v: %v, want %v", locks, edges, got, want)
	}
	return ok
}

// P20.2: all sets of edges between up to four locks.
func TestAllRanks(t *testing.T) {
	for locks, want := range []int{1, 1, 3, 25, 543} {
		ordered := 0
		for set := range 1 << (locks * locks) {
			var edges [][2]int
			for i := range locks * locks {
				if set>>i&1 == 1 {
					edges = append(edges, [2]int{i / locks, i % locks})
				}
			}
			if holdModelRanks(t, locks, edges) {
				ordered++
			}
		}
		if ordered != want {
			t.Error(locks, ordered)
		}
	}
}

// P20.2: edges between more locks, by chance: mostly in an order; ranks rise along each edge, whatever row the edges stand in, and however often.
func TestMadeRanks(t *testing.T) {
	r := rand.New(rand.NewPCG(20, 2))
	ordered := 0
	for range 20000 {
		locks := 2 + r.IntN(7)
		row := r.Perm(locks)
		var edges [][2]int
		for range r.IntN(20) {
			from, to := r.IntN(locks), r.IntN(locks)
			if r.IntN(30) > 0 && from != to {
				from, to = min(from, to), max(from, to)
			}
			if from != to || r.IntN(30) == 0 {
				edges = append(edges, [2]int{row[from], row[to]})
			}
		}
		if holdModelRanks(t, locks, edges) {
			ordered++
		}
		first, _ := order.Ranks(locks, edges...)
		r.Shuffle(len(edges), func(i, k int) { edges[i], edges[k] = edges[k], edges[i] })
		again, _ := order.Ranks(locks, append(edges, edges...)...)
		if !slices.Equal(first, again) {
			t.Fatal(edges, first, again)
		}
		for _, e := range edges {
			if len(first) > 0 && first[e[0]] >= first[e[1]] {
				t.Fatal(edges, first)
			}
		}
	}
	if ordered < 8000 || ordered > 19000 {
		t.Error(ordered)
	}
}

// P20.2, P1: very many edges, of which the last one alone is wrong.
func TestManyRanks(t *testing.T) {
	edges := slices.Repeat(read("70 06 65 54 43 32 21"), 200000)
	holdRanks(t, 8, edges, "17654320")
	holdRanks(t, 8, append(edges, [2]int{1, 7}), "-")
	holdRanks(t, 8, append(edges, [2]int{1, 8}), "-")
	holdRanks(t, 7, edges, "-")
}

// often: what locks are about.
var often = []int{api.OLock, api.OUnlock, api.OLock, api.OIf, api.OUnlock, api.OCall, api.OReturn}

// P20.1, P20.3: made code, with as many locks as may be, against the model; and with one number changed, if it is still right.
func TestMade(t *testing.T) {
	r := rand.New(rand.NewPCG(20, 1))
	met := map[string]int{}
	for seed := range uint64(4000) {
		m := sample.Code(seed, often[:seed%8]...)
		if seed%4 < 2 {
			m.Locks = strings.Split("abcabdef", "")
			spread(m, r)
		}
		if seed%2 == 0 {
			straighten(m, r)
		}
		holdModel(t, m)
		edges, diags := find(t, m), order.Check(m)
		_, ok := order.Ranks(len(m.Locks), edges...)
		cycle := slices.ContainsFunc(diags, func(d api.Diag) bool { return d.Code == api.ErrCycle })
		if ok == cycle {
			t.Fatal(seed, edges, diags)
		}
		count(met, "edges", len(edges) > 0)
		count(met, "many", len(edges) > 20)
		count(met, "ordered", len(edges) > 1 && ok)
		count(met, "cycle", cycle)
		count(met, "part", cycle && slices.ContainsFunc(edges, func(e [2]int) bool { return !leads(edges, e[1], e[0]) }))
		count(met, "clean", len(diags) == 0)
		f := m.Funcs[r.IntN(len(m.Funcs))]
		o := &f.Code[r.IntN(len(f.Code))]
		*[]*int{&o.Kind, &o.A, &o.B, &o.K, &o.Next, &o.Else}[r.IntN(6)] = []int{-1, 0, 1, 2, 3, 17, 18, 23, 1 << 40, -1 << 63}[r.IntN(10)]
		if code.Right(m) {
			holdModel(t, m)
		} else {
			holdWrong(t, seed, m)
		}
		count(met, "wrong", !code.Right(m))
	}
	enough(t, met, map[string]int{"edges": 1500, "many": 80, "ordered": 60, "cycle": 1500, "part": 100, "clean": 1000, "wrong": 1500})
}

// spread: all locks that code takes or gives back are others, by chance.
func spread(m api.Module, r *rand.Rand) {
	for _, f := range m.Funcs {
		for i, o := range f.Code {
			if o.Kind == api.OLock || o.Kind == api.OUnlock {
				f.Code[i].A = r.IntN(len(m.Locks))
			}
		}
	}
}

// straighten: code goes on forward alone, up to each function's end, where that returns.
func straighten(m api.Module, r *rand.Rand) {
	for _, f := range m.Funcs {
		last := len(f.Code) - 1
		for i, o := range f.Code[:last] {
			if o.Kind != api.OReturn {
				f.Code[i].Next = i + 1
			}
			if o.Kind == api.OIf {
				f.Code[i].Else = i + 1 + r.IntN(last-i)
			}
		}
		f.Code[last] = api.Op{Kind: api.OReturn, Args: make([]int, f.Result)}
	}
}

func count(met map[string]int, what string, is bool) {
	if is {
		met[what]++
	}
}

// enough: each thing was met as often as is told, at least.
func enough(t *testing.T, met, least map[string]int) {
	t.Helper()
	for what, want := range least {
		if met[what] < want {
			t.Error(what, met[what], want)
		}
	}
}

// P20.5, P2: what is handed in is as it was, in its spare room too; what is answered is new memory, and is the same again.
func TestMemory(t *testing.T) {
	for seed := range uint64(300) {
		m := sample.SpareCode(sample.Code(seed, often...))
		before := sample.WholeCode(m)
		edges, diags := find(t, m), order.Check(m)
		want, wrong := slices.Clone(edges), slices.Clone(diags)
		for range 3 {
			if !slices.Equal(find(t, m), want) || !slices.Equal(order.Check(m), wrong) {
				t.Fatalf("%d: another answer", seed)
			}
		}
		clear(edges[:cap(edges)])
		clear(diags[:cap(diags)])
		if !slices.Equal(find(t, m), want) || !slices.Equal(order.Check(m), wrong) {
			t.Fatalf("%d: kept memory", seed)
		}
		if !reflect.DeepEqual(sample.WholeCode(m), before) {
			t.Fatalf("%d: changed", seed)
		}
	}
}

// P20.5, P2: the same of ranks.
func TestRanksMemory(t *testing.T) {
	for _, text := range []string{"31 12 03 31 00", "31 12 03 31 10", "31 12 03 31 90"} {
		for size := range 6 {
			edges := read(text)
			list, ok := order.Ranks(4, edges[:size]...)
			want := slices.Clone(list)
			clear(list[:cap(list)])
			again, is := order.Ranks(4, edges[:size]...)
			if ok != is || !slices.Equal(again, want) || !slices.Equal(edges, read(text)) {
				t.Error(text, size, again, want, edges)
			}
		}
	}
}
