package code_test

import (
	"math/rand/v2"
	"reflect"
	"slices"
	"testing"

	"portcullis/api"
	"portcullis/code"
	"portcullis/sample"
)

// told holds all calls' answers of code against the chapter's words.
func told(t *testing.T, m api.Module, want bool) {
	t.Helper()
	if got := code.Right(m); got != want {
		t.Fatalf("Right is %v: %+v", got, m)
	}
	words, size, text, err := 0, 0, "", api.ErrCode
	if want {
		for _, g := range m.Globals {
			words += g.Size
		}
		for _, f := range m.Funcs {
			size += len(f.Code)
		}
		text, err = shown(m), api.OK
	}
	if gotWords, gotSize := code.Words(m), code.Size(m); gotWords != words || gotSize != size {
		t.Fatalf("%d words and %d operations, want %d and %d: %+v", gotWords, gotSize, words, size, m)
	}
	if gotText, gotErr := code.Show(m); gotText != text || gotErr != err {
		t.Fatalf("%q %d, want %q %d", gotText, gotErr, text, err)
	}
}

// broad: code in which no two kinds of things are equally many; its function 0 has the operation o, of 10.
func broad(o api.Op) api.Module {
	m := api.Module{
		Globals: []api.Sized{{Name: "a", Size: 2}, {Size: 1}, {Size: 2}, {Size: 2}, {Size: 2}},
		Structs: []api.Sized{{Size: 0}, {Size: 16}},
		Chans:   []api.Sized{{Size: 1}, {Size: 4}, {Size: 2}, {Size: 3}},
		Locks:   named(7), Inputs: named(5), Sinks: named(3), Hatches: named(6), Threads: []int{0, 0},
	}
	halt := api.Op{Kind: api.OReturn}
	m.Funcs = []api.Func{{Regs: 14, Code: slices.Repeat([]api.Op{halt}, 10)}}
	m.Funcs[0].Code[3] = o
	for i := range 10 {
		f := api.Func{Params: i % 4, Regs: 3, Result: i % 3, Code: []api.Op{halt}}
		f.Code[0].Args = make([]int, f.Result)
		m.Funcs = append(m.Funcs, f)
	}
	return m
}

// plain: operations of a kind that can stand in broad's function, with low and with high numbers.
func plain(kind int) []api.Op {
	switch kind {
	case api.OReturn:
		return []api.Op{{Kind: kind}}
	case api.OUnary:
		return []api.Op{{Kind: kind, K: 1}, {Kind: kind, A: 13, B: 13, K: 2, Next: 9}}
	case api.OBinary:
		return []api.Op{{Kind: kind, K: 1}, {Kind: kind, A: 13, B: 13, C: 13, K: 11, Next: 9}}
	case api.OMake, api.OCut:
		return []api.Op{{Kind: kind, B: 1}, {Kind: kind, A: 13, B: 12, C: 13, Next: 9}}
	case api.OCall:
		return []api.Op{{Kind: kind, B: -1}, {Kind: kind, A: 5, B: 13, K: 1}, {Kind: kind, A: 9, B: 12, K: 2}, {Kind: kind, A: 6, B: -1, Args: []int{13}, Next: 9}}
	}
	return []api.Op{{Kind: kind}, {Kind: kind, Next: 9}}
}

// P10.1, P10.2: each kind, with all that a field of it may and may not be, the others as they are.
func TestFields(t *testing.T) {
	around := edges(1, 2, 3, 4, 5, 6, 7, 9, 10, 11, 12, 13, 14, 15, 16, 23)
	for kind := api.OConst; kind <= api.OReturn; kind++ {
		for _, o := range plain(kind) {
			told(t, broad(o), true)
			for i := range append(fields(&o), &o.Next, &o.Else, &o.Kind) {
				for _, n := range around {
					other := o
					*append(fields(&other), &other.Next, &other.Else, &other.Kind)[i] = n
					m := broad(other)
					told(t, m, right(m))
				}
			}
			for _, args := range [][]int{{}, {0}, {13}, {14}, {-1}, {0, 0}, {0, 13}, {1 << 32, 0}, {0, 0, 0}, make([]int, 1000)} {
				m := broad(o)
				m.Funcs[0].Code[3].Args = args
				told(t, m, right(m))
			}
		}
	}
}

// P10.1: cases by hand, in broad's function.
func TestOps(t *testing.T) {
	for i, c := range []struct {
		o    api.Op
		want bool
	}{
		{api.Op{Kind: api.OConst, A: 13, K: -1 << 63, At: -1 << 63}, true},
		{api.Op{Kind: api.OConst, A: 13, K: 1<<63 - 1, At: 1<<63 - 1, Next: 9}, true},
		{api.Op{Kind: api.OConst, A: 13, B: 1}, false},
		{api.Op{Kind: api.OConst, A: 13, Args: []int{0}}, false},
		{api.Op{Kind: api.OInput, A: 13, B: 4}, true},
		{api.Op{Kind: api.OInput, A: 13, B: 5}, false},
		{api.Op{Kind: api.ORelease, A: 13, B: 5}, true},
		{api.Op{Kind: api.ORelease, A: 13, B: 6}, false},
		{api.Op{Kind: api.OMove, A: 13, B: 13}, true},
		{api.Op{Kind: api.OMove, A: 13, B: 13, K: 1}, false},
		{api.Op{Kind: api.OUnary, K: 2}, true},
		{api.Op{Kind: api.OUnary, K: 3}, false},
		{api.Op{Kind: api.OBinary, K: 11}, true},
		{api.Op{Kind: api.OBinary}, false},
		{api.Op{Kind: api.OLoad, A: 13, B: 8, K: 1}, true},
		{api.Op{Kind: api.OLoad, A: 13, B: 9}, false},
		{api.Op{Kind: api.OStore, A: 8, B: 13, K: 1}, true},
		{api.Op{Kind: api.OStore, A: 9, B: 13}, false},
		{api.Op{Kind: api.ONew, A: 13, B: 1}, true},
		{api.Op{Kind: api.ONew, A: 13, B: 2}, false},
		{api.Op{Kind: api.OMake, A: 13, B: 12, C: 13}, true},
		{api.Op{Kind: api.OMake, A: 13, B: 13, C: 12}, false},
		{api.Op{Kind: api.OGet, A: 13, B: 13, C: 15, K: 1}, true},
		{api.Op{Kind: api.OGet, A: 13, B: 14, C: 15}, false},
		{api.Op{Kind: api.OPut, A: 13, B: 15, C: 13, K: 1}, true},
		{api.Op{Kind: api.OPut, A: 13, B: 16, C: 13}, false},
		{api.Op{Kind: api.OIndex, A: 13, B: 13, C: 13, D: 13}, true},
		{api.Op{Kind: api.OIndex, A: 13, B: 13, C: 13, D: 14}, false},
		{api.Op{Kind: api.OElem, A: 13, B: 13, C: 13, D: 13}, true},
		{api.Op{Kind: api.OElem, A: 13, B: 13, C: 13, D: 13, E: 1}, false},
		{api.Op{Kind: api.OCut, A: 12, B: 13, C: 13, D: 13, E: 13, F: 13}, true},
		{api.Op{Kind: api.OCut, A: 12, B: 12, C: 13, D: 13, E: 13, F: 13}, false},
		{api.Op{Kind: api.OCut, A: 12, B: 13, F: 14}, false},
		{api.Op{Kind: api.OLock, A: 6}, true},
		{api.Op{Kind: api.OLock, A: 7}, false},
		{api.Op{Kind: api.OUnlock, A: 6}, true},
		{api.Op{Kind: api.OUnlock, A: -1}, false},
		{api.Op{Kind: api.OSend, A: 3, B: 13}, true},
		{api.Op{Kind: api.OSend, A: 4, B: 13}, false},
		{api.Op{Kind: api.ORecv, A: 13, B: 3}, true},
		{api.Op{Kind: api.ORecv, A: 13, B: 4}, false},
		{api.Op{Kind: api.OOut, A: 2, B: 13}, true},
		{api.Op{Kind: api.OOut, A: 3, B: 13}, false},
		{api.Op{Kind: api.OIf, A: 13, Next: 9, Else: 9}, true},
		{api.Op{Kind: api.OIf, A: 13, Next: 9, Else: 10}, false},
		{api.Op{Kind: api.OIf, A: 13, Next: 10, Else: 9}, false},
		{api.Op{Kind: api.OCall, A: 3, B: 12, K: 2, Args: []int{13, 13}}, true},
		{api.Op{Kind: api.OCall, A: 3, B: 13, K: 2, Args: []int{13, 13}}, false},
		{api.Op{Kind: api.OCall, A: 3, B: 12, K: 1, Args: []int{13, 13}}, false},
		{api.Op{Kind: api.OCall, A: 3, B: -1, K: 2, Args: []int{13, 13}}, false},
		{api.Op{Kind: api.OCall, A: 3, B: -1, Args: []int{13, 13}}, true},
		{api.Op{Kind: api.OCall, A: 3, B: -1, Args: []int{13, 14}}, false},
		{api.Op{Kind: api.OCall, A: 3, B: -1, Args: []int{13, 13, 13}}, false},
		{api.Op{Kind: api.OCall, A: 3, B: 0, Args: []int{13, 13}}, false},
		{api.Op{Kind: api.OCall, A: 0, B: -1}, true},
		{api.Op{Kind: api.OCall, A: 11, B: -1}, false},
		{api.Op{Kind: api.OCall, A: -1, B: -1}, false},
		{api.Op{Kind: api.OReturn}, true},
		{api.Op{Kind: api.OReturn, Next: 1}, false},
		{api.Op{Kind: api.OReturn, Else: 1}, false},
		{api.Op{Kind: api.OLock, Next: 9, Else: 1}, false},
		{api.Op{}, false},
		{api.Op{Kind: 24}, false},
		{api.Op{Kind: -1}, false},
	} {
		if got := code.Right(broad(c.o)); got != c.want {
			t.Error(i, c.o, got)
		}
	}
}

// P10.1: how many of each may be, and of which sizes.
func TestParts(t *testing.T) {
	same := func(n, size int) []api.Sized { return slices.Repeat([]api.Sized{{Size: size}}, n) }
	for i, c := range []struct {
		change func(m *api.Module)
		want   bool
	}{
		{func(m *api.Module) { m.Globals = same(16, 2) }, true},
		{func(m *api.Module) { m.Globals = same(16, 1) }, true},
		{func(m *api.Module) { m.Globals = same(17, 1) }, false},
		{func(m *api.Module) { m.Globals = same(1, 0) }, false},
		{func(m *api.Module) { m.Globals = same(1, 3) }, false},
		{func(m *api.Module) { m.Globals = []api.Sized{{Size: 1}, {Size: -1}, {Size: 2}} }, false},
		{func(m *api.Module) { m.Structs = same(4, 16) }, true},
		{func(m *api.Module) { m.Structs = same(4, 0) }, true},
		{func(m *api.Module) { m.Structs = same(5, 1) }, false},
		{func(m *api.Module) { m.Structs = same(1, 17) }, false},
		{func(m *api.Module) { m.Structs = same(1, -1) }, false},
		{func(m *api.Module) { m.Chans = same(4, 4) }, true},
		{func(m *api.Module) { m.Chans = same(5, 1) }, false},
		{func(m *api.Module) { m.Chans = same(1, 5) }, false},
		{func(m *api.Module) { m.Chans = same(1, 0) }, false},
		{func(m *api.Module) { m.Chans = same(1, 1<<32+1) }, false},
		{func(m *api.Module) { m.Locks, m.Inputs, m.Sinks, m.Hatches = named(8), named(8), named(4), named(8) }, true},
		{func(m *api.Module) { m.Locks = named(9) }, false},
		{func(m *api.Module) { m.Inputs = named(9) }, false},
		{func(m *api.Module) { m.Sinks = named(5) }, false},
		{func(m *api.Module) { m.Hatches = named(9) }, false},
		{func(m *api.Module) {
			m.Locks, m.Globals = []string{"", "a b", "\xff", "\xff"}, []api.Sized{{Name: "no name", Size: 1}}
		}, true},
		{func(m *api.Module) { *m = api.Module{Funcs: m.Funcs} }, true},
		{func(m *api.Module) { *m = api.Module{} }, false},
	} {
		m := api.Module{Funcs: []api.Func{{Code: []api.Op{{Kind: api.OReturn}}}}, Threads: []int{0}}
		c.change(&m)
		if right(m) != c.want {
			t.Error("the model", i)
		}
		told(t, m, c.want)
	}
}

// halting: a function without parameters or results, of so many operations.
func halting(n int) api.Func {
	return api.Func{Name: "f", Code: slices.Repeat([]api.Op{{Kind: api.OReturn}}, n)}
}

// P10.1: functions and threads, and how many operations all functions have together.
func TestFuncs(t *testing.T) {
	for i, c := range []struct {
		change func(m *api.Module)
		want   bool
	}{
		{func(m *api.Module) { m.Funcs = nil; m.Threads = nil }, false},
		{func(m *api.Module) { m.Funcs = slices.Repeat([]api.Func{halting(1)}, 12) }, true},
		{func(m *api.Module) { m.Funcs = slices.Repeat([]api.Func{halting(1)}, 13) }, false},
		{func(m *api.Module) { m.Threads = nil }, true},
		{func(m *api.Module) { m.Threads = []int{0, 0, 0, 0} }, true},
		{func(m *api.Module) { m.Threads = []int{0, 0, 0, 0, 0} }, false},
		{func(m *api.Module) { m.Threads = []int{1} }, false},
		{func(m *api.Module) { m.Threads = []int{0, -1} }, false},
		{func(m *api.Module) { m.Funcs[0].Regs, m.Funcs[0].Params = 1, 1 }, false},
		{func(m *api.Module) { m.Funcs[0].Regs, m.Funcs[0].Params, m.Threads = 1, 1, nil }, true},
		{func(m *api.Module) { m.Funcs[0].Regs, m.Funcs[0].Params, m.Threads = 1, 2, nil }, false},
		{func(m *api.Module) { m.Funcs[0].Regs, m.Funcs[0].Params, m.Threads = 1, -1, nil }, false},
		{func(m *api.Module) { m.Funcs[0].Regs, m.Funcs[0].Params, m.Threads = 1024, 1024, nil }, true},
		{func(m *api.Module) { m.Funcs[0].Regs = 1025 }, false},
		{func(m *api.Module) { m.Funcs[0].Regs = -1 }, false},
		{func(m *api.Module) { m.Funcs[0].Regs, m.Funcs[0].Params, m.Threads = -1, -1, nil }, false},
		{func(m *api.Module) { f := &m.Funcs[0]; f.Regs, f.Result, f.Code[0].Args = 1, 2, []int{0, 0} }, true},
		{func(m *api.Module) { f := &m.Funcs[0]; f.Regs, f.Result, f.Code[0].Args = 3, 3, []int{0, 1, 2} }, false},
		{func(m *api.Module) { m.Funcs[0].Result = -1 }, false},
		{func(m *api.Module) { m.Funcs[0].Code = []api.Op{} }, false},
		{func(m *api.Module) { m.Funcs = append(m.Funcs, api.Func{}) }, false},
		{func(m *api.Module) { m.Funcs[0] = halting(4096) }, true},
		{func(m *api.Module) { m.Funcs[0] = halting(4097) }, false},
		{func(m *api.Module) { m.Funcs = []api.Func{halting(2048), halting(1), halting(2047)} }, true},
		{func(m *api.Module) { m.Funcs = []api.Func{halting(2048), halting(1), halting(2048)} }, false},
		{func(m *api.Module) { m.Funcs = append(m.Funcs, halting(2)); m.Funcs[1].Code[1].Kind = 0 }, false},
		{func(m *api.Module) { m.Funcs[0].Code[0] = api.Op{Kind: api.OCall, B: -1} }, true},
		{func(m *api.Module) { m.Funcs[0].Code[0] = api.Op{Kind: api.OConst} }, false},
	} {
		m := api.Module{Funcs: []api.Func{halting(1)}, Threads: []int{0}}
		c.change(&m)
		if right(m) != c.want {
			t.Error("the model", i)
		}
		told(t, m, c.want)
	}
}

// P10.1, P10.2: made code, and the same with one number that is another.
func TestMade(t *testing.T) {
	r := maker{rand.New(rand.NewPCG(10, 10))}
	rights, wrongs := 0, 0
	for range 1500 {
		m := r.module()
		if !right(m) {
			t.Fatalf("made wrong: %+v", m)
		}
		told(t, m, true)
		list := numbers(&m)
		for range 20 {
			n := list[r.IntN(len(list))]
			was := *n
			*n = edges(3, 5, 8, 16, 24)[r.IntN(24)]
			if right(m) {
				rights++
			} else {
				wrongs++
			}
			told(t, m, right(m))
			*n = was
		}
	}
	if rights < 2000 || wrongs < 10000 {
		t.Error(rights, wrongs)
	}
}

// P10.2: texts by hand.
func TestShow(t *testing.T) {
	whole := api.Module{
		Globals: []api.Sized{{Name: "g", Size: 2}}, Structs: []api.Sized{{Name: "s", Size: 16}}, Chans: []api.Sized{{Name: "c", Size: 1}},
		Locks: []string{"l"}, Inputs: []string{"i"}, Sinks: []string{"o"}, Hatches: []string{"h"}, Threads: []int{0},
		Funcs: []api.Func{{Name: "t", Regs: 1024, Code: []api.Op{
			{Kind: api.OConst, A: 1023, K: -1 << 63, Next: 1, At: 77},
			{Kind: api.OInput, A: 1, Next: 2}, {Kind: api.ORelease, A: 2, Next: 3}, {Kind: api.OMove, A: 3, B: 4, Next: 4},
			{Kind: api.OUnary, A: 1, B: 2, K: 2, Next: 5}, {Kind: api.OBinary, A: 1, B: 2, C: 3, K: 11, Next: 6},
			{Kind: api.OLoad, A: 5, B: 1, K: 1, Next: 7}, {Kind: api.OStore, A: 1, B: 5, K: 1, Next: 8},
			{Kind: api.ONew, A: 6, Next: 9}, {Kind: api.OMake, A: 1, B: 2, C: 3, Next: 10},
			{Kind: api.OGet, A: 1, B: 2, C: 15, K: 1, Next: 11}, {Kind: api.OPut, A: 1, B: 15, C: 3, K: 1, Next: 12},
			{Kind: api.OIndex, A: 1, B: 2, C: 3, D: 4, Next: 13}, {Kind: api.OElem, A: 1, B: 2, C: 3, D: 4, Next: 14},
			{Kind: api.OCut, A: 1, B: 2, C: 3, D: 4, E: 5, F: 6, Next: 15}, {Kind: api.OLock, Next: 16}, {Kind: api.OUnlock, Next: 17},
			{Kind: api.OSend, B: 1, Next: 18}, {Kind: api.ORecv, A: 1, Next: 19}, {Kind: api.OOut, B: 1, Next: 20},
			{Kind: api.OIf, A: 1, Next: 21, Else: 22}, {Kind: api.OCall, A: 1, B: 1022, K: 2, Args: []int{7, 0, 7}, Next: 22}, {Kind: api.OReturn},
		}}, {Name: "f", Params: 3, Regs: 10, Result: 2, Code: []api.Op{{Kind: api.OCall, A: 1, B: -1, Args: []int{0, 1, 2}, Next: 1}, {Kind: api.OReturn, Args: []int{9, 8}, At: -3}}}},
	}
	const text = "func 0 0 1024 0\n" +
		"0 const 1023 0 0 0 0 0 -9223372036854775808 -> 1\n" + "1 input 1 0 0 0 0 0 0 -> 2\n" + "2 release 2 0 0 0 0 0 0 -> 3\n" + "3 move 3 4 0 0 0 0 0 -> 4\n" +
		"4 unary 1 2 0 0 0 0 2 -> 5\n" + "5 binary 1 2 3 0 0 0 11 -> 6\n" + "6 load 5 1 0 0 0 0 1 -> 7\n" + "7 store 1 5 0 0 0 0 1 -> 8\n" +
		"8 new 6 0 0 0 0 0 0 -> 9\n" + "9 make 1 2 3 0 0 0 0 -> 10\n" + "10 get 1 2 15 0 0 0 1 -> 11\n" + "11 put 1 15 3 0 0 0 1 -> 12\n" +
		"12 index 1 2 3 4 0 0 0 -> 13\n" + "13 elem 1 2 3 4 0 0 0 -> 14\n" + "14 cut 1 2 3 4 5 6 0 -> 15\n" + "15 lock 0 0 0 0 0 0 0 -> 16\n" + "16 unlock 0 0 0 0 0 0 0 -> 17\n" +
		"17 send 0 1 0 0 0 0 0 -> 18\n" + "18 recv 1 0 0 0 0 0 0 -> 19\n" + "19 out 0 1 0 0 0 0 0 -> 20\n" +
		"20 if 1 0 0 0 0 0 0 -> 21 22\n" + "21 call 1 1022 0 0 0 0 2 7 0 7 -> 22\n" + "22 return 0 0 0 0 0 0 0\n" +
		"func 1 3 10 2\n" + "0 call 1 -1 0 0 0 0 0 0 1 2 -> 1\n" + "1 return 0 0 0 0 0 0 0 9 8\n"
	if got, err := code.Show(whole); got != text || err != api.OK {
		t.Errorf("%q %d", got, err)
	}
	if got, err := code.Show(api.Module{Funcs: []api.Func{halting(1)}, Threads: []int{0}}); got != "func 0 0 0 0\n0 return 0 0 0 0 0 0 0\n" || err != api.OK {
		t.Errorf("%q %d", got, err)
	}
	whole.Funcs[0].Code[22].Next = 1
	if got, err := code.Show(whole); got != "" || err != api.ErrCode {
		t.Errorf("%q %d", got, err)
	}
}

// P10.3, P2: what is handed in is as it was, in its spare room too, which counts for nothing; and a call answers the same again.
func TestUnchanged(t *testing.T) {
	r := maker{rand.New(rand.NewPCG(10, 3))}
	for i := range 100 {
		m := r.module()
		if i%2 == 1 {
			m.Funcs[0].Code[0].Kind = 24
		}
		m = sample.SpareCode(m)
		want := sample.WholeCode(m)
		told(t, m, i%2 == 0)
		first, _ := code.Show(m)
		second, _ := code.Show(m)
		if first != second || !reflect.DeepEqual(sample.WholeCode(m), want) {
			t.Errorf("changed: %+v", m)
		}
	}
}
