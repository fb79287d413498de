package watch_test

import (
	"fmt"
	"math"
	"reflect"
	"slices"
	"testing"

	"portcullis/api"
	"portcullis/code"
	"portcullis/watch"
)

// touched: what Touch answers of the first thread, as a text: the place, and "w" if it is written; "-" for nothing.
func touched(t *testing.T, m api.Module, s api.State) string {
	t.Helper()
	place, writes, ok := watch.Touch(m, s, 0)
	switch {
	case !ok && (place != 0 || writes):
		t.Fatal(place, writes)
	case !ok:
		return "-"
	case writes:
		return fmt.Sprint(place, "w")
	}
	return fmt.Sprint(place)
}

// P16.1: each kind with words in its registers, at the edges of all that there is. In use are the addresses 1 to 64, 65 to 69, 193.
func TestTouch(t *testing.T) {
	for _, c := range []struct {
		text, want string
		words      []int
	}{
		{"load 0 0 0", "-1", nil}, {"load 5 1 0", "-2", nil}, {"load 0 2 1", "-3", nil}, {"load 0 3 0", "-4", []int{1, 1, 1, 1, 1, 1}},
		{"store 0 0 0", "-1w", nil}, {"store 1 5 0", "-2w", nil}, {"store 2 0 1", "-3w", nil}, {"store 3 0 0", "-4w", nil},
		{"get 0 1 0 0", "-", nil}, {"get 0 1 3 0", "-", nil}, {"get 1 0 3 1", "4", []int{1}}, {"get 0 1 0 0", "1", []int{0, 1}},
		{"get 0 1 15 0", "64", []int{0, 49}}, {"get 0 1 15 0", "65", []int{0, 50}}, {"get 0 1 15 0", "69", []int{0, 54}}, {"get 0 1 15 0", "-", []int{0, 55}}, {"get 0 1 0 0", "69", []int{0, 69}}, {"get 0 1 0 0", "-", []int{0, 70}},
		{"get 0 1 0 0", "-", []int{0, 128}}, {"get 0 1 0 0", "-", []int{0, 129}}, {"get 0 1 0 0", "-", []int{0, 192}}, {"get 0 1 0 0", "193", []int{0, 193}}, {"get 0 1 0 0", "-", []int{0, 194}}, {"get 0 1 0 0", "-", []int{0, 256}}, {"get 0 1 0 0", "-", []int{0, 257}},
		{"get 0 1 0 0", "-", []int{0, -1}}, {"get 0 1 1 0", "-", []int{0, -1}}, {"get 0 1 2 0", "1", []int{0, -1}}, {"get 0 1 1 0", "-", []int{0, -3}}, {"get 0 1 0 0", "-", []int{0, math.MinInt}}, {"get 0 1 0 0", "-", []int{0, math.MaxInt}}, {"get 0 1 15 1", "-", []int{0, math.MaxInt}},
		{"put 0 0 1 0", "-", nil}, {"put 1 2 0 1", "66w", []int{0, 64}}, {"put 0 0 1 0", "1w", []int{1}}, {"put 0 15 1 0", "16w", []int{1}}, {"put 0 15 1 0", "-", []int{55}}, {"put 0 15 0 0", "69w", []int{54}},
		{"put 0 0 1 0", "-", []int{-1}}, {"put 0 1 1 0", "-", []int{-1}}, {"put 0 9 1 0", "1w", []int{-8}}, {"put 0 0 1 0", "-", []int{1 << 40}},
		{"index 0 1 2 3", "-", nil}, {"index 3 0 1 2", "5", []int{5, 1, 0}}, {"index 3 0 1 2", "-", []int{5, 1, 1}}, {"index 3 0 1 2", "-", []int{5, 1, -1}}, {"index 3 0 1 2", "-", []int{5, 0, 0}}, {"index 3 0 1 2", "-", []int{5, -1, -2}}, {"index 3 0 1 2", "8", []int{5, 4, 3}}, {"index 3 0 1 2", "-", []int{5, 4, 4}},
		{"index 3 0 1 2", "69", []int{65, 9, 4}}, {"index 3 0 1 2", "-", []int{65, 9, 5}}, {"index 3 0 1 2", "-", []int{0, 9, 0}}, {"index 3 0 1 2", "1", []int{0, 9, 1}}, {"index 3 0 1 2", "3", []int{-5, 9, 8}}, {"index 3 0 1 2", "-", []int{-5, 9, 5}}, {"index 3 0 1 2", "-", []int{-5, 9, 4}}, {"index 3 0 1 2", "193", []int{1, 193, 192}},
		{"index 3 0 1 2", "-", []int{math.MaxInt, math.MaxInt, 1}}, {"index 3 0 1 2", "-", []int{math.MaxInt, math.MaxInt, math.MaxInt - 1}}, {"index 3 0 1 2", "1", []int{2 - math.MaxInt, math.MaxInt, math.MaxInt - 1}}, {"index 3 0 1 2", "-", []int{math.MinInt, math.MaxInt, math.MaxInt - 1}}, {"index 3 0 1 2", "-", []int{1, math.MinInt, 0}}, {"index 3 0 1 2", "-", []int{1, 5, math.MinInt}},
		{"index 0 0 0 0", "-", []int{5}}, {"index 0 0 0 1", "5", []int{5, 0}},
		{"elem 0 1 2 3", "-", nil}, {"elem 0 1 2 3", "5w", []int{5, 1, 0}}, {"elem 0 1 2 3", "-", []int{5, 1, 1}}, {"elem 0 1 2 3", "-", []int{5, 1, -1}}, {"elem 3 2 1 0", "67w", []int{9, 2, 3, 65}}, {"elem 3 2 1 0", "-", []int{9, 3, 3, 65}}, {"elem 0 1 2 3", "-", []int{70, 9, 0}}, {"elem 0 1 2 3", "193w", []int{190, 4, 3}},
		{"const 0 5", "-", []int{1}}, {"lock 0", "-", []int{1}}, {"unlock 0", "-", []int{1}}, {"out 0 0", "-", []int{1}}, {"send 0 0", "-", []int{1}}, {"recv 0 0", "-", []int{1}}, {"return", "-", []int{1}},
	} {
		m, s := codeOf(c.text), stateOf(c.words, 0)
		if got := touched(t, m, s); got != c.want || !code.Right(m) {
			t.Errorf("%s %v: %s, want %s", c.text, c.words, got, c.want)
		}
		hold(t, m, s)
	}
}

// touching: an operation of each kind that touches, with words by which it does.
var touching = []string{"load 2 0 0", "store 0 3 0", "get 4 1 0 0", "put 1 0 4 0", "index 4 1 2 0", "elem 1 2 0 5"}

var touchingWords = []int{0, 1, 3, 7, 7, 7}

// P16.1: a register that the operation needs isn't there; all others count for nothing. A call may have more of them than its function.
func TestRegisters(t *testing.T) {
	last := []int{0, 1, 0, 0, 0, 1}
	// Of each kind each register is once the last of those that are needed.
	for _, c := range []struct {
		text  string
		least int
		words []int
	}{
		{"load 0 3 0", 1, nil}, {"load 5 0 1", 6, nil}, {"store 3 0 0", 1, nil}, {"store 0 5 1", 6, nil},
		{"get 5 1 0 0", 6, last}, {"get 1 5 7 1", 6, last}, {"get 1 1 15 0", 2, last}, {"put 5 9 1 0", 6, last}, {"put 1 9 5 1", 6, last}, {"put 1 15 1 0", 2, last},
		{"index 5 1 1 0", 6, last}, {"index 0 5 1 2", 6, last}, {"index 0 1 5 2", 6, last}, {"index 0 1 1 5", 6, []int{0, 1}}, {"index 0 0 0 1", 2, []int{1}},
		{"elem 5 1 0 2", 6, last}, {"elem 1 5 0 2", 6, last}, {"elem 1 1 5 0", 6, []int{0, 1}}, {"elem 1 1 0 5", 6, last}, {"elem 1 1 0 0", 2, last},
	} {
		m := codeOf(c.text)
		for count := range 10 {
			s := stateOf(nil, 0)
			s.Threads[0].Frames[0].Regs = slices.Concat(c.words, make([]int, 10))[:count:count]
			if got := touched(t, m, s); (got == "-") != (count < c.least) {
				t.Errorf("%s with %d registers: %s", c.text, count, got)
			}
			hold(t, m, s)
		}
	}
	// A lock is waited for without any.
	s := stateOf(nil, 0, 1)
	s.Threads[0].Frames[0].Regs, s.Threads[1].Frames[0].Regs = nil, nil
	s.Holders = []int{1, 0}
	if got := hold(t, codeOf("lock 0", "lock 1"), s); !slices.Equal(got.Ring, []int{0, 1}) {
		t.Error(got)
	}
}

// P16.1: threads, calls, functions, places and words that aren't there.
func TestNothing(t *testing.T) {
	m := codeOf(touching...)
	m.Funcs = append(m.Funcs, m.Funcs[0])
	for pc := range touching {
		for name, change := range map[string]func(s *api.State){
			"threads": func(s *api.State) { s.Threads = nil },
			"calls":   func(s *api.State) { s.Threads[0].Frames = nil },
			"empty":   func(s *api.State) { s.Threads[0].Frames = []api.Frame{} },
			"return":  func(s *api.State) { s.Threads[0].Frames[0].Pc = len(touching) },
			"below":   func(s *api.State) { s.Threads[0].Frames = append(s.Threads[0].Frames, api.Frame{Pc: -1}) },
			"words":   func(s *api.State) { s.Globals, s.Arenas = nil, nil },
			"arena":   func(s *api.State) { s.Globals, s.Arenas[0] = nil, nil },
		} {
			s := stateOf(touchingWords, pc)
			if got := touched(t, m, s); got == "-" {
				t.Error(touching[pc])
			}
			change(&s)
			if got := touched(t, m, s); got != "-" {
				t.Error(touching[pc], name, got)
			}
			hold(t, m, s)
		}
		for _, n := range append([]int{2, 3, 7, 8}, wild...) {
			for _, field := range []string{"Func", "Pc", "Fault"} {
				s := stateOf(touchingWords, pc)
				call := &s.Threads[0].Frames[0]
				*map[string]*int{"Func": &call.Func, "Pc": &call.Pc, "Fault": &s.Threads[0].Fault}[field] = n
				if got := touched(t, m, s); got != "-" && (field != "Pc" || n > 5) {
					t.Error(touching[pc], field, n, got)
				}
				hold(t, m, s)
			}
		}
	}
}

// P16.1: of several calls the last one counts; its function is told by its number, which need not be a thread's.
func TestLastCall(t *testing.T) {
	m := codeOf("store 0 0 0", "lock 0")
	m.Funcs = append(m.Funcs, codeOf("load 0 3 0").Funcs...)
	s := stateOf(nil, 0, 0)
	s.Threads[0].Frames = append(s.Threads[0].Frames, api.Frame{Func: 1, Regs: make([]int, regs)})
	if got := touched(t, m, s); got != "-4" {
		t.Error(got)
	}
	if got := hold(t, m, s); len(got.Races) != 0 {
		t.Error(got)
	}
	s.Threads[0].Frames = s.Threads[0].Frames[1:]
	if got := touched(t, m, s); got != "-4" {
		t.Error(got)
	}
	m.Threads = nil
	if got := hold(t, m, stateOf(nil, 0, 0, 0, 0, 0)); len(got.Races) != 10 {
		t.Error(got)
	}
}

// P16.1: the words of a state count, not those that a machine would have: of an Arena the first 64.
func TestWords(t *testing.T) {
	m := codeOf("get 1 0 0 0")
	for addr := -3; addr < 400; addr++ {
		s := stateOf([]int{addr}, 0)
		s.Arenas = [][]api.Word{make([]api.Word, 70), nil, make([]api.Word, 1), make([]api.Word, 64), make([]api.Word, 63), make([]api.Word, 2)}
		in := addr >= 1 && addr <= 64 || addr == 129 || addr >= 193 && addr <= 256 || addr >= 257 && addr <= 319 || addr == 321 || addr == 322
		if got := touched(t, m, s); (got != "-") != in {
			t.Error(addr, got)
		}
		hold(t, m, s)
	}
	m = codeOf("load 0 3 0", "store 2 0 0", "load 0 0 0")
	for count := range 6 {
		s := stateOf(nil, 0, 1, 2)
		s.Globals = make([]api.Word, count)
		for thread, least := range []int{4, 3, 1} {
			if _, _, ok := watch.Touch(m, s, thread); ok != (count >= least) {
				t.Error(count, thread, ok)
			}
		}
		hold(t, m, s)
	}
}

// P16.2: two threads race just if they touch one word, and one of them writes it.
func TestRaces(t *testing.T) {
	texts := []string{"load 2 0 0", "store 0 3 0", "load 2 1 1", "store 1 3 1", "get 4 1 0 0", "put 1 0 4 0", "get 4 1 1 0", "put 1 1 4 0", "index 4 1 2 0", "elem 1 2 0 5", "index 4 1 2 1", "elem 1 2 1 5", "lock 0", "out 0 0"}
	// The words 0 and 1 of all that is global, and of the object, which the slice is too.
	words := []string{"g0", "g0w", "g1", "g1w", "o0", "o0w", "o1", "o1w", "o0", "o0w", "o1", "o1w", "x", "y"}
	m := codeOf(texts...)
	for a := range texts {
		for b := range texts {
			got := hold(t, m, stateOf(touchingWords, a, b))
			want := words[a][:min(2, len(words[a]))] == words[b][:min(2, len(words[b]))] && len(words[a])+len(words[b]) > 4
			if (len(got.Races) == 1) != want || watch.Clean(got) == want {
				t.Errorf("%s and %s: %v", texts[a], texts[b], got)
			}
		}
	}
	for _, c := range []struct {
		places []int
		want   [][2]int
	}{
		{[]int{1, 1}, [][2]int{{0, 1}}},
		{[]int{1, 1, 1, 1}, [][2]int{{0, 1}, {0, 2}, {0, 3}, {1, 2}, {1, 3}, {2, 3}}},
		{[]int{0, 0, 1, 0}, [][2]int{{0, 2}, {1, 2}, {2, 3}}},
		{[]int{5, 1, 0, 4}, [][2]int{{0, 3}, {1, 2}}},
		{[]int{4, 0, 1, 9}, [][2]int{{0, 3}, {1, 2}}},
		{[]int{13, 0, 12, 1, 0, 1}, [][2]int{{1, 3}, {1, 5}, {3, 4}, {3, 5}, {4, 5}}},
		{[]int{0, 2, 4, 6}, nil},
		{[]int{1}, nil},
		{nil, nil},
	} {
		if got := hold(t, m, stateOf(touchingWords, c.places...)); !slices.Equal(got.Races, c.want) {
			t.Error(c.places, got.Races, c.want)
		}
	}
}

// P16.2: the ring of all states of three threads that are at locks, and of three locks that somebody holds.
func TestRing(t *testing.T) {
	m := codeOf("lock 0", "lock 1", "lock 2", "out 0 0")
	found := map[string]int{}
	for n := range 4 * 4 * 4 * 5 * 5 * 5 {
		s := stateOf(nil, n%4, n/4%4, n/16%4)
		s.Holders = []int{n/64%5 - 1, n/320%5 - 1, n/1600%5 - 1}
		found[fmt.Sprint(hold(t, m, s).Ring)]++
	}
	for _, ring := range []string{"[]", "[0]", "[1]", "[2]", "[0 1]", "[0 2]", "[1 2]", "[0 1 2]", "[0 2 1]"} {
		if found[ring] == 0 {
			t.Error(ring)
		}
	}
	if len(found) != 9 {
		t.Error(found)
	}
}

// P16.2: threads that wait, with holders and calls of all sorts.
func TestRingEdges(t *testing.T) {
	m := codeOf("lock 0", "lock 1", "lock 2", "lock 7")
	cross := func() api.State {
		s := stateOf(nil, 0, 1, 0, 1)
		s.Holders = []int{3, 2}
		return s
	}
	for name, c := range map[string]struct {
		change func(s *api.State)
		want   []int
	}{
		"as it is":             {func(s *api.State) {}, []int{2, 3}},
		"two rings":            {func(s *api.State) { s.Threads[1].Frames[0].Pc, s.Holders = 2, []int{3, 2, 1} }, []int{1}},
		"a fault":              {func(s *api.State) { s.Threads[2].Fault = 1 }, nil},
		"another's fault":      {func(s *api.State) { s.Threads[0].Fault = 1 }, []int{2, 3}},
		"no call":              {func(s *api.State) { s.Threads[3].Frames = nil }, nil},
		"no function":          {func(s *api.State) { s.Threads[3].Frames[0].Func = 1 }, nil},
		"no Pc":                {func(s *api.State) { s.Threads[3].Frames[0].Pc = 5 }, nil},
		"no registers":         {func(s *api.State) { s.Threads[3].Frames[0].Regs = nil }, []int{2, 3}},
		"no holders":           {func(s *api.State) { s.Holders = nil }, nil},
		"few holders":          {func(s *api.State) { s.Holders = s.Holders[:1] }, nil},
		"many holders":         {func(s *api.State) { s.Holders = slices.Repeat([]int{3, 2}, 40) }, []int{2, 3}},
		"holders below 0":      {func(s *api.State) { s.Holders[0] = math.MinInt }, nil},
		"no such holder":       {func(s *api.State) { s.Holders[0] = 4 }, nil},
		"far beyond all":       {func(s *api.State) { s.Holders[0] = math.MaxInt }, nil},
		"the last lock":        {func(s *api.State) { s.Threads[1].Frames[0].Pc, s.Holders = 3, []int{-1, -1, -1, -1, -1, -1, -1, 1} }, []int{1}},
		"threads that go away": {func(s *api.State) { s.Threads = s.Threads[:3] }, nil},
	} {
		s := cross()
		c.change(&s)
		if got := hold(t, m, s); !slices.Equal(got.Ring, c.want) || watch.Clean(got) != (c.want == nil) {
			t.Error(name, got, c.want)
		}
	}
}

// P16.2: who gave back what it didn't hold; other faults are nobody's.
func TestBad(t *testing.T) {
	m := codeOf("store 0 0 0")
	for n := range 9 * 9 * 9 {
		s := stateOf(nil, 1, 1, 1)
		var want []int
		for i, fault := range []int{n % 9, n / 9 % 9, n / 81} {
			if s.Threads[i].Fault = fault; fault == api.FHeld {
				want = append(want, i)
			}
		}
		if got := hold(t, m, s); !slices.Equal(got.Bad, want) || watch.Clean(got) != (want == nil) {
			t.Error(n, got.Bad, want)
		}
	}
	for _, fault := range wild {
		s := stateOf(nil, 1)
		if s.Threads[0].Fault = fault; !watch.Clean(hold(t, m, s)) {
			t.Error(fault)
		}
	}
}

// P16.3: each thing that must not be seen, alone and with all others.
func TestClean(t *testing.T) {
	for set := range 32 {
		x := api.Seen{Races: [][2]int{}, Ring: []int{}, Bad: []int{}, Torn: set&8 > 0, Wild: set&16 > 0}
		if set&1 > 0 {
			x.Races = make([][2]int, 1)
		}
		if set&2 > 0 {
			x.Ring = make([]int, 1)
		}
		if set&4 > 0 {
			x.Bad = make([]int, 1)
		}
		if watch.Clean(x) != (set == 0) {
			t.Error(set)
		}
	}
	if !watch.Clean(api.Seen{}) {
		t.Error("nothing")
	}
	for set := range 4 {
		s := stateOf(nil, 0)
		s.Torn, s.Wild = set&1 > 0, set&2 > 0
		got := hold(t, codeOf("const 0 0"), s)
		if want := (api.Seen{Torn: s.Torn, Wild: s.Wild}); !reflect.DeepEqual(got, want) || watch.Clean(got) != (set == 0) {
			t.Error(set, got)
		}
	}
}

// P16.4: of code that isn't right nothing is touched, and nothing waits; what is seen of the state alone stays.
func TestWrongCode(t *testing.T) {
	s := stateOf(touchingWords, 0, 0, 1, 2, 3)
	s.Holders, s.Torn, s.Wild = []int{3, 2}, true, true
	s.Threads = append(s.Threads, api.Thread{Fault: api.FHeld})
	for name, change := range map[string]func(m *api.Module){
		"right":    func(m *api.Module) {},
		"nothing":  func(m *api.Module) { *m = api.Module{} },
		"register": func(m *api.Module) { m.Funcs[0].Code[3].A = regs },
		"lock":     func(m *api.Module) { m.Funcs[0].Code[2].A = 8 },
		"negative": func(m *api.Module) { m.Funcs[0].Code[0].A = -1 },
		"next":     func(m *api.Module) { m.Funcs[0].Code[3].Next = 9 },
		"thread":   func(m *api.Module) { m.Threads[3] = 1 },
		"global":   func(m *api.Module) { m.Globals = nil },
	} {
		m := codeOf("store 0 3 0", "lock 0", "lock 1", "put 1 0 4 0")
		change(&m)
		got := hold(t, m, s)
		right := name == "right"
		if code.Right(m) != right || (len(got.Races) == 1) != right || (len(got.Ring) == 2) != right || !slices.Equal(got.Bad, []int{5}) || !got.Torn || !got.Wild {
			t.Error(name, got)
		}
		if (touched(t, m, s) == "-1w") != right {
			t.Error(name, touched(t, m, s))
		}
		hold(t, m, api.State{})
	}
}
