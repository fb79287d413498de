package held_test

import (
	"fmt"
	"math/rand/v2"
	"reflect"
	"slices"
	"strings"
	"testing"

	"portcullis/api"
	"portcullis/code"
	"portcullis/held"
	"portcullis/sample"
)

// hold holds what is found of code against what is told by hand and against the model.
func hold(t *testing.T, m api.Module, want string) {
	t.Helper()
	h := find(t, m)
	if got := told(h); got != want {
		t.Errorf("%s, want\n%s", got, want)
	}
	if got, by := told(h), modelHeld(m, h); got != by {
		t.Errorf("%s, the model says\n%s", got, by)
	}
}

// P18.1: what each operation does with what is held, and where it leads: of one thread.
func TestOperations(t *testing.T) {
	for text, want := range map[string]string{
		"": "0",
		// What takes locks, and gives them back.
		"lock 0": "0 1",
		"lock 7": "0 128",
		"lock 0; lock 1; lock 2; lock 3; lock 4; lock 5; lock 6; lock 7": "0 1 3 7 15 31 63 127 255",
		"lock 7; lock 0; lock 2; unlock 7; unlock 2":                     "0 128 129 133 5 1",
		"lock 1; lock 1; unlock 1":                                       "0 2 2 0",
		"unlock 3":                                                       "0 0",
		"lock 3; unlock 4; unlock 3; unlock 3":                           "0 8 8 0 0",
		// What goes on at two places.
		"lock 0; if 0 > 2 | 3; unlock 0":              "0 1 1 0/1",
		"if 0 > 2 | 1; lock 0":                        "0 0 0/1",
		"if 0 > 1 | 3; lock 2; lock 1 > 4; lock 2":    "0 0 4 0 4/6",
		"if 0 > 1 | 3; lock 0; const 0 0 > 4; lock 1": "0 0 1 0 0/3",
		"lock 5; if 0 > 2 | 2":                        "0 32 32",
		"if 0 > 1 | 0; lock 0":                        "0 0 1",
		"lock 4; if 0 > 0 | 2":                        "0/16 16 16",
		"lock 0; lock 1; if 0 > 4 | 3; unlock 1; if 0 > 6 | 5; unlock 0; if 0 > 7 | 7": "0 1 3 3 1/3 1/3 0/3 0/3",
		// What goes round.
		"if 0 > 1 | 3; lock 1; const 0 0 > 0":        "0/2 0/2 2 0/2",
		"lock 0; unlock 0 > 0":                       "0 1 -",
		"lock 0 > 0":                                 "0/1 -",
		"unlock 0; lock 0; lock 1 > 0":               "0/3 0/2 1/3 -",
		"lock 0; if 0 > 2 | 4; unlock 0; lock 1 > 1": "0 0/3 0/3 0/2 0/3",
		// Where nobody comes.
		"return; lock 0":                              "0 - -",
		"if 0 > 0 | 0":                                "0 -",
		"const 0 0 > 2; lock 0":                       "0 - 0",
		"const 0 0 > 3; lock 0; lock 1; unlock 2":     "0 - - 0 0",
		"const 0 0 > 3; if 0 > 3 | 1; lock 0; lock 1": "0 - - 0 2",
		// All others change nothing.
		"lock 1; const 0 5; input 0 1; release 0 1; move 1 0; unary 0 0 1; binary 0 1 2 3; load 0 1 1; store 1 0 0; new 0 0; make 0 1 2": "0 2 2 2 2 2 2 2 2 2 2 2",
		"lock 2; get 0 1 15 0; put 0 15 1 1; index 0 1 2 3; elem 0 1 2 3; cut 0 1 2 3 0 1; send 0 1; recv 1 0; out 1 1":                  "0 4 4 4 4 4 4 4 4 4",
	} {
		hold(t, codeOf([]int{0}, "0 0:"+strings.TrimPrefix(text+"; return", "; ")), want)
	}
}

// P18.1: calls and returns, and threads.
func TestCalls(t *testing.T) {
	for _, c := range []struct {
		threads []int
		want    string
		funcs   []string
	}{
		// What is held goes in, and comes back.
		{[]int{0}, "0 1 3 | 1 3", []string{"0 0: lock 0; call 1 -1 0; return", "0 0: lock 1; return"}},
		{[]int{0}, "0 1 0 | 1 0", []string{"0 0: lock 0; call 1 -1 0; return", "0 0: unlock 0; return"}},
		{[]int{1}, "1 0 | 0 1 0", []string{"0 0: unlock 0; return", "0 0: lock 0; call 0 -1 0; return"}},
		{[]int{0}, "0 1 9 | 1 9", []string{"0 0: lock 0; call 1 0 2 r1 r2; return", "2 2: lock 3; return r0 r1"}},
		{[]int{0}, "0 12 | 0 2 14 12 | 2 6 14 | 6 14", []string{"0 0: call 1 -1 0; return", "0 0: lock 1; call 2 -1 0; unlock 1; return", "0 0: lock 2; call 3 -1 0; return", "0 0: lock 3; return"}},
		{[]int{0}, "0/1 - | 0/1 1", []string{"0 0: call 1 -1 0 > 0; return", "0 0: lock 0; return"}},
		// From several places, and to all of them.
		{[]int{0}, "0 1 2/3 2 2/3 | 0/3 2/3", []string{"0 0: lock 0; call 1 -1 0; unlock 0; call 1 -1 0; return", "0 0: lock 1; return"}},
		{[]int{0}, "0 0/1 | 0 0 1 0", []string{"0 0: call 1 -1 0; return", "0 0: if 0 > 1 | 3; lock 0; return; return"}},
		{[]int{0}, "0 0 0 1/9 | 0 8 1/9 | 0/8 1/9", []string{"0 0: if 0 > 1 | 2; call 1 -1 0 > 3; call 2 -1 0; return", "0 0: lock 3; call 2 -1 0; return", "0 0: lock 0; return"}},
		// Functions that nobody comes back from, or that nobody comes to.
		{[]int{0}, "0 - - | 0 4 -", []string{"0 0: call 1 -1 0; lock 0; return", "0 0: lock 2; const 0 0 > 1; return"}},
		{[]int{0}, "0 2 - - - | 0 2", []string{"0 0: call 1 -1 0; return; call 1 -1 0; lock 0; return", "0 0: lock 1; return"}},
		{[]int{0}, "0 - - | - -", []string{"0 0: return; call 1 -1 0; return", "0 0: lock 0; return"}},
		{[]int{0}, "0 - - | - - | -", []string{"0 0: return; call 1 -1 0; return", "0 0: call 2 -1 0; return", "0 0: return"}},
		{[]int{0}, "0 | x | x", []string{"0 0: return", "0 0: call 2 -1 0; return", "0 0: return"}},
		// Functions that call themselves, and each other.
		{[]int{0}, "0/2 2 2 2", []string{"0 0: lock 1; if 0 > 2 | 3; call 0 -1 0; return"}},
		{[]int{0}, "0 - -", []string{"0 0: call 0 -1 0; lock 0; return"}},
		{[]int{0}, "0/1 1 - -", []string{"0 0: lock 0; call 0 -1 0; unlock 0; return"}},
		{[]int{0}, "0/3 1/3 2/3 2 | 1/3 3 3 2/3", []string{"0 0: lock 0; call 1 -1 0; unlock 0; return", "0 0: lock 1; if 0 > 2 | 3; call 0 -1 0; return"}},
		// Each thread by itself.
		{[]int{0, 0}, "0 1 ; 0 1", []string{"0 0: lock 0; return"}},
		{[]int{0, 1}, "0 1 1 | x | 1 ; x | 0 2 2 | 2", []string{"0 0: lock 0; call 2 -1 0; return", "0 0: lock 1; call 2 -1 0; return", "0 0: return"}},
		{[]int{2, 0, 1}, "x | x | 0 ; 0 1/3 - | 1/3 3 | x ; x | 0 2 | x", []string{"0 0: lock 0; call 1 -1 0 > 1; return", "0 0: lock 1; return", "0 0: return"}},
		{nil, "", []string{"0 0: lock 0; return"}},
	} {
		hold(t, codeOf(c.threads, c.funcs...), c.want)
	}
}

// P18.1: programs by hand; locks have their numbers in the order of the text.
func TestPrograms(t *testing.T) {
	for text, want := range map[string]string{
		"thread t { }": "0",
		"thread t { lock a ; if true { unlock a ; } return ; }":                                                                         "0 1 1 1 0/1 -",
		"thread t { lock a ; while true { lock b ; unlock b ; } unlock a ; }":                                                           "0 1 1 1 3 1 0",
		"thread t { while true { lock a ; } unlock a ; }":                                                                               "0/1 0/1 0/1 0/1 0",
		"thread t { lock b ; while true { } }":                                                                                          "0 2 2 2",
		"thread t { if true { lock a ; lock b ; } else { lock b ; } unlock b ; }":                                                       "0 0 0 1 0 2/3 0/1",
		"func f ( ) int { lock b ; return 1 ; } thread t { var x int = 0 ; call x = f ( ) ; unlock b ; }":                               "0 2 2 - - | 0 0 0 2 0",
		"func f ( ) { lock a ; } func g ( ) { unlock a ; } thread t { call f ( ) ; call g ( ) ; } thread u { call g ( ) ; unlock b ; }": "0 1 | 1 0 | 0 1 0 | x ; x | 0 0 | x | 0 0 0",
		"func f ( n int ) { if ( 0 < n ) { lock a ; call f ( ( n - 1 ) ) ; unlock a ; } } thread t { call f ( 3 ) ; }":                  "0/1 0/1 0/1 0/1 1 1 1 0/1 0/1 | 0 0 0/1",
	} {
		hold(t, sample.Lowered("lock a ; lock b ; "+text), want)
	}
}

// P18.1: code without locks, registers, threads or anything else; the least and the greatest numbers of them.
func TestEdges(t *testing.T) {
	halt := []api.Op{{Kind: api.OReturn}}
	hold(t, api.Module{Funcs: []api.Func{{Code: halt}}}, "")
	hold(t, api.Module{Funcs: []api.Func{{Code: halt}}, Threads: []int{0, 0, 0, 0}}, "0 ; 0 ; 0 ; 0")
	most := api.Module{Locks: make([]string, 8), Threads: []int{11, 11, 0, 11}}
	for fn := range 12 {
		ops := sample.Ops("lock 0; call 0 -1 0; unlock 0; return")
		ops[0].A, ops[1].A, ops[2].A = fn%8, max(fn-1, 0), (fn+7)%8
		most.Funcs = append(most.Funcs, api.Func{Regs: 1024, Code: ops})
	}
	chain := "255 255 - - | 255 255 - - | 255 255 - - | 255 255 - - | 239 255 - - | 207 239 - - | 143 207 - - | 15 143 - - | 14 15 - - | 12 14 - - | 8 12 - - | 0 8 - -"
	hold(t, most, chain+" ; "+chain+" ; 0/1 1 - -"+strings.Repeat(" | x", 11)+" ; "+chain)
}

// holdWrong: nothing is found of code.
func holdWrong(t *testing.T, what any, m api.Module) {
	t.Helper()
	if h, e := held.Find(m); e != api.ErrCode || !reflect.DeepEqual(h, api.Held{}) {
		t.Fatal(what, e, h)
	}
}

// P18.1: of code that isn't right nothing is found.
func TestWrongCode(t *testing.T) {
	for name, change := range map[string]func(m *api.Module){
		"nothing":   func(m *api.Module) { *m = api.Module{} },
		"lock":      func(m *api.Module) { m.Funcs[0].Code[0].A = 8 },
		"negative":  func(m *api.Module) { m.Funcs[1].Code[0].A = -1 },
		"far":       func(m *api.Module) { m.Funcs[0].Code[0].A = 1 << 40 },
		"locks":     func(m *api.Module) { m.Locks = make([]string, 9) },
		"none":      func(m *api.Module) { m.Locks = nil },
		"next":      func(m *api.Module) { m.Funcs[0].Code[0].Next = 3 },
		"else":      func(m *api.Module) { m.Funcs[0].Code[0].Else = 1 },
		"function":  func(m *api.Module) { m.Funcs[0].Code[1].A = 2 },
		"result":    func(m *api.Module) { m.Funcs[1].Result = 1 },
		"kind":      func(m *api.Module) { m.Funcs[0].Code[2].Kind = 24 },
		"empty":     func(m *api.Module) { m.Funcs[1].Code = nil },
		"thread":    func(m *api.Module) { m.Threads[0] = 2 },
		"uncalled":  func(m *api.Module) { m.Funcs = append(m.Funcs, api.Func{}) },
		"register":  func(m *api.Module) { m.Funcs[0].Regs = -1 },
		"parameter": func(m *api.Module) { m.Funcs[0].Params = 1 },
	} {
		m := codeOf([]int{0}, "0 0: lock 7; call 1 -1 0; return", "0 0: unlock 7; return")
		hold(t, m, "0 128 0 | 128 0")
		change(&m)
		holdWrong(t, name, m)
	}
}

// often: what locks are about.
var often = []int{api.OLock, api.OUnlock, api.OLock, api.OUnlock, api.OIf, api.OCall, api.OReturn}

// P18.1: made code, with as many locks as may be, against the model; and with one number changed, if it is still right.
func TestMade(t *testing.T) {
	r := rand.New(rand.NewPCG(18, 1))
	met := map[string]int{}
	for seed := range uint64(4000) {
		m := sample.Code(seed, often[:seed%8]...)
		if seed%4 == 0 {
			m.Locks = make([]string, 8)
			for _, o := range locking(m) {
				o.A = r.IntN(8)
			}
		}
		h := find(t, m)
		if got, want := told(h), modelHeld(m, h); got != want {
			text, _ := code.Show(m)
			t.Fatalf("%d: %s, want\n%s\n%s", seed, got, want, text)
		}
		for _, what := range []string{"/", "-", "x", " 3", ";", "128", "0/", "1/"} {
			if strings.Contains(told(h), what) {
				met[what]++
			}
		}
		f := m.Funcs[r.IntN(len(m.Funcs))]
		o := &f.Code[r.IntN(len(f.Code))]
		*[]*int{&o.Kind, &o.A, &o.B, &o.K, &o.Next, &o.Else}[r.IntN(6)] = []int{-1, 0, 1, 2, 3, 20, 21, 23, 1 << 40, -1 << 63}[r.IntN(10)]
		if !code.Right(m) {
			holdWrong(t, seed, m)
			met["wrong"]++
		} else if h := find(t, m); told(h) != modelHeld(m, h) {
			t.Fatal(seed, told(h))
		}
	}
	for what, least := range map[string]int{"/": 1000, "-": 1000, "x": 500, " 3": 500, ";": 1500, "128": 20, "0/": 1000, "1/": 200, "wrong": 1000} {
		if met[what] < least {
			t.Error(what, met[what])
		}
	}
}

// locking: the operations that take locks and give them back.
func locking(m api.Module) []*api.Op {
	var list []*api.Op
	for _, f := range m.Funcs {
		for i := range f.Code {
			if o := &f.Code[i]; o.Kind == api.OLock || o.Kind == api.OUnlock {
				list = append(list, o)
			}
		}
	}
	return list
}

// P18.3, P2: what is handed in is as it was, in its spare room too; what is answered is new memory, of which no two lists share any, and is the same again.
func TestMemory(t *testing.T) {
	for seed := range uint64(200) {
		m := sample.SpareCode(sample.Code(seed, often...))
		before := sample.WholeCode(m)
		first, second := find(t, m), find(t, m)
		want := fmt.Sprint(second)
		if fmt.Sprint(first) != want {
			t.Fatalf("%d: another answer", seed)
		}
		funcs := slices.Concat(slices.Concat(first.Must, first.May)...)
		for i, list := range funcs {
			room := list[:cap(list)]
			for k := range room {
				room[k] = -2 - i
			}
		}
		for i, list := range funcs {
			if slices.ContainsFunc(list[:cap(list)], func(n int) bool { return n != -2-i }) {
				t.Fatalf("%d: shared memory", seed)
			}
		}
		threads := slices.Concat(first.Must, first.May)
		for i, list := range threads {
			room := list[:cap(list)]
			for k := range room {
				room[k] = []int{i}
			}
		}
		for i, list := range threads {
			if slices.ContainsFunc(list[:cap(list)], func(one []int) bool { return one[0] != i }) {
				t.Fatalf("%d: shared lists", seed)
			}
		}
		clear(first.Must[:cap(first.Must)])
		if slices.ContainsFunc(first.May, func(list [][]int) bool { return list == nil }) {
			t.Fatalf("%d: shared threads", seed)
		}
		if fmt.Sprint(second) != want || fmt.Sprint(find(t, m)) != want {
			t.Fatalf("%d: kept memory", seed)
		}
		if !reflect.DeepEqual(sample.WholeCode(m), before) {
			t.Fatalf("%d: changed", seed)
		}
	}
}
