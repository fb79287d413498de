package points_test

import (
	"fmt"
	"reflect"
	"slices"
	"strings"
	"testing"

	"portcullis/api"
	"portcullis/code"
	"portcullis/points"
	"portcullis/sample"
)

// hold holds what is found of code against the model and against what is told by hand.
func hold(t *testing.T, m api.Module, want string) {
	t.Helper()
	p := find(t, m)
	if got := told(p); got != want {
		t.Errorf("%s, want\n%s", got, want)
	}
	if !same(p, modelOf(m).points()) {
		t.Errorf("%s, the model says\n%s", told(p), told(modelOf(m).points()))
	}
}

// P17.1: what each operation lets point to what: of one thread.
func TestOperations(t *testing.T) {
	for text, want := range map[string]string{
		"": "|",
		// What makes objects.
		"new 0 0":                             "0.0.0 | 0.0.0=0",
		"new 5 1; new 5 2":                    "0.0.0 0.0.1 | 0.0.5=0+1",
		"make 3 4 2":                          "0.0.0 | 0.0.3=0",
		"make 4 3 3; make 3 4 4":              "0.0.0 0.0.1 | 0.0.3=1 0.0.4=0",
		"const 1 5; new 2 0":                  "0.0.1 | 0.0.2=0",
		"return; new 2 0; move 1 2; move 0 1": "0.0.1 | 0.0.0=0 0.0.1=0 0.0.2=0",
		// What moves them.
		"new 0 0; move 1 0; move 2 1":                                                "0.0.0 | 0.0.0=0 0.0.1=0 0.0.2=0",
		"move 2 1; move 1 0; new 0 0":                                                "0.0.2 | 0.0.0=0 0.0.1=0 0.0.2=0",
		"new 0 0; new 1 0; move 0 1; move 1 0":                                       "0.0.0 0.0.1 | 0.0.0=0+1 0.0.1=0+1",
		"new 0 0; const 0 0; move 1 0; move 0 2":                                     "0.0.0 | 0.0.0=0 0.0.1=0",
		"make 0 1 5; cut 2 3 0 1 4 5":                                                "0.0.0 | 0.0.0=0 0.0.2=0",
		"new 0 0; cut 1 2 3 0 0 0":                                                   "0.0.0 | 0.0.0=0",
		"new 0 0; new 1 0; cut 1 0 0 1 1 1":                                          "0.0.0 0.0.1 | 0.0.0=0 0.0.1=0+1",
		"new 0 0; move 0 0; cut 0 1 0 1 2 2":                                         "0.0.0 | 0.0.0=0",
		"new 0 0; store 0 0 0; load 1 0 0":                                           "0.0.0 | 0.0.0=0 0.0.1=0 g0=0",
		"load 1 4 0; store 4 0 0; new 0 0":                                           "0.0.2 | 0.0.0=0 0.0.1=0 g4=0",
		"new 0 0; store 1 0 0; load 1 2 1; load 2 1 1":                               "0.0.0 | 0.0.0=0 0.0.2=0 g1=0",
		"new 0 0; store 1 0 1; load 1 2 0; load 2 1 0":                               "0.0.0 | 0.0.0=0 0.0.2=0 g1=0",
		"new 0 0; store 3 0 0; new 1 0; store 3 1 0; load 2 3 0":                     "0.0.0 0.0.2 | 0.0.0=0 0.0.1=1 0.0.2=0+1 g3=0+1",
		"new 0 0; put 0 0 0 0":                                                       "0.0.0 | 0.0.0=0 s0.0=0",
		"new 0 0; new 1 0; put 0 2 1 0; get 2 0 2 0":                                 "0.0.0 0.0.1 | 0.0.0=0 0.0.1=1 0.0.2=1 s0.2=1",
		"new 0 0; new 1 0; put 0 2 1 1; get 2 0 2 1; get 3 0 3 0":                    "0.0.0 0.0.1 | 0.0.0=0 0.0.1=1 0.0.2=1 s0.2=1",
		"new 0 0; new 1 0; put 0 2 1 1; get 2 0 3 1; get 3 0 1 1":                    "0.0.0 0.0.1 | 0.0.0=0 0.0.1=1 s0.2=1",
		"get 2 0 15 0; put 0 15 1 0; new 1 0; new 0 1":                               "0.0.2 0.0.3 | 0.0.0=1 0.0.1=0 0.0.2=0 s1.15=0",
		"make 0 1 2; put 0 7 0 0; get 1 0 7 0":                                       "0.0.0 | 0.0.0=0 0.0.1=0 s0.7=0",
		"new 0 0; get 1 0 0 0; put 1 0 0 0; put 2 0 0 0":                             "0.0.0 | 0.0.0=0",
		"new 0 0; new 0 0; new 1 0; put 0 1 1 0":                                     "0.0.0 0.0.1 0.0.2 | 0.0.0=0+1 0.0.1=2 s0.1=2 s1.1=2",
		"new 0 0; new 1 0; put 0 0 1 0; put 1 0 0 0; get 0 0 0 0":                    "0.0.0 0.0.1 | 0.0.0=0+1 0.0.1=1 s0.0=1 s1.0=0+1",
		"new 0 0; new 1 0; new 2 0; put 0 0 1 0; put 1 0 2 0; move 3 0; get 3 3 0 0": "0.0.0 0.0.1 0.0.2 | 0.0.0=0 0.0.1=1 0.0.2=2 0.0.3=0+1+2 s0.0=1 s1.0=2",
		// All others move nothing.
		"new 0 0; const 0 7; input 0 1; release 0 1; unary 1 0 1; unary 1 0 2; send 0 0; recv 1 0; out 0 0; lock 0; unlock 1; if 0 > 0 | 3":                                                 "0.0.0 | 0.0.0=0",
		"new 0 0; binary 1 0 0 1; binary 2 0 0 2; index 3 0 0 0; index 4 0 0 0; elem 5 0 0 0; elem 0 0 0 5; binary 1 0 2 11; const 1 1":                                                     "0.0.0 | 0.0.0=0",
		"new 0 0; new 1 0; elem 0 1 1 1; index 2 0 1 1; index 2 1 0 0; send 0 0; recv 3 0; lock 1; out 1 1; release 4 1; release 5 0; input 3 0; unary 2 1 1; binary 3 0 1 9; if 0 > 0 | 0": "0.0.0 0.0.1 | 0.0.0=0 0.0.1=1",
	} {
		hold(t, codeOf([]int{0}, "0 0:"+strings.TrimPrefix(text+"; return", "; ")), want)
	}
}

// P17.1: what calls let point to what, and which functions are called.
func TestCalls(t *testing.T) {
	for i, c := range []struct {
		threads []int
		funcs   []string
		reach   string
		want    string
	}{
		// Arguments, and what is given, by their places.
		{[]int{0}, []string{"0 0: new 3 0; new 4 0; call 1 -1 0 r3 r4 r3; return", "3 0: return"}, "0+1", "0.0.0 0.0.1 | 0.0.3=0 0.0.4=1 0.1.0=0 0.1.1=1 0.1.2=0"},
		{[]int{0}, []string{"0 0: call 1 5 1; return", "0 1: new 2 0; return r2"}, "0+1", "0.1.0 | 0.0.5=0 0.1.2=0"},
		{[]int{0}, []string{"0 0: call 1 4 2; return", "0 2: new 2 0; new 3 0; return r3 r2"}, "0+1", "0.1.0 0.1.1 | 0.0.4=1 0.0.5=0 0.1.2=0 0.1.3=1"},
		{[]int{0}, []string{"0 0: call 1 0 2; return", "0 2: new 2 0; return r2 r2; return r3 r2; new 3 0; return r1 r3"}, "0+1", "0.1.0 0.1.3 | 0.0.0=0+1 0.0.1=0+1 0.1.2=0 0.1.3=1"},
		{[]int{0}, []string{"0 0: call 1 -1 0; return", "0 2: new 0 0; return r0 r0"}, "0+1", "0.1.0 | 0.1.0=0"},
		{[]int{0}, []string{"0 0: new 0 0; call 1 0 1 r0; call 1 1 1 r2; return", "1 1: return r0"}, "0+1", "0.0.0 | 0.0.0=0 0.0.1=0 0.1.0=0"},
		{[]int{0}, []string{"0 0: new 0 0; new 1 0; call 1 2 1 r0 r1; call 1 3 1 r1 r0; return", "2 1: return r0"}, "0+1", "0.0.0 0.0.1 | 0.0.0=0 0.0.1=1 0.0.2=0+1 0.0.3=0+1 0.1.0=0+1 0.1.1=0+1"},
		{[]int{0}, []string{"0 0: new 0 0; call 1 0 1 r0; return", "1 1: return r1; put 0 4 0 0; get 1 0 4 0; return r2"}, "0+1", "0.0.0 | 0.0.0=0 0.1.0=0 0.1.1=0 s0.4=0"},
		// Wherever the call stands.
		{[]int{0}, []string{"0 0: return; call 2 -1 0; return", "0 0: new 0 0; return", "0 0: const 0 0 > 2; call 3 -1 0; return", "0 0: new 1 0; return"}, "0+2+3", "0.3.0 | 0.3.1=0"},
		{[]int{3}, []string{"0 0: new 0 0; return", "0 0: call 0 -1 0; new 0 0; return", "0 0: new 0 0; return", "0 0: new 0 0; call 1 -1 0; return"}, "0+1+3", "0.0.0 0.1.1 0.3.0 | 0.0.0=0 0.1.0=1 0.3.0=2"},
		// Functions that call themselves, and each other.
		{[]int{0}, []string{"0 1: new 0 0; call 0 1 1; return r0"}, "0", "0.0.0 | 0.0.0=0 0.0.1=0"},
		{[]int{0}, []string{"0 0: new 0 0; call 1 -1 0 r0 r1; return", "2 0: call 1 -1 0 r1 r0; return"}, "0+1", "0.0.0 | 0.0.0=0 0.1.0=0 0.1.1=0"},
		{[]int{2}, []string{"1 1: call 1 3 1 r0; return r3", "1 1: call 0 2 1 r0; new 4 0; return r4; return r2", "0 0: new 0 0; call 0 1 1 r0; return"}, "0+1+2", "0.1.1 0.2.0 | 0.0.0=1 0.0.3=0 0.1.0=1 0.1.2=0 0.1.4=0 0.2.0=1 0.2.1=0"},
		// Each thread has its own registers, and sites; what is global is all threads'.
		{[]int{0, 0}, []string{"0 0: new 0 0; move 1 0; return"}, "0 0", "0.0.0 1.0.0 | 0.0.0=0 0.0.1=0 1.0.0=1 1.0.1=1"},
		{[]int{0, 1}, []string{"0 0: new 0 0; store 2 0 0; return", "0 0: load 3 2 0; move 4 3; return"}, "0 1", "0.0.0 | 0.0.0=0 1.1.3=0 1.1.4=0 g2=0"},
		{[]int{0, 1}, []string{"0 0: call 2 0 1; return", "0 0: call 2 1 1; store 0 1 0; return", "0 1: new 5 0; return r5"}, "0+2 1+2", "0.2.0 1.2.0 | 0.0.0=0 0.2.5=0 1.1.1=1 1.2.5=1 g0=1"},
		{[]int{1, 0, 1}, []string{"0 0: new 0 0; store 0 0 0; load 1 0 0; return", "0 0: load 0 0 0; new 1 0; put 0 9 1 0; return"}, "1 0 1", "0.1.1 1.0.0 2.1.1 | 0.1.0=1 0.1.1=0 1.0.0=1 1.0.1=1 2.1.0=1 2.1.1=2 g0=1 s1.9=0+2"},
		{[]int{0, 1, 1, 0}, []string{"0 0: new 0 0; put 0 0 0 0; store 4 0 0; return", "0 0: load 5 4 0; get 5 5 0 0; return"}, "0 1 1 0", "0.0.0 3.0.0 | 0.0.0=0 1.1.5=0+1 2.1.5=0+1 3.0.0=1 g4=0+1 s0.0=0 s1.0=1"},
		// Nobody calls anything.
		{nil, []string{"0 0: new 0 0; store 0 0 0; return", "3 1: call 0 -1 0; return r0"}, "", "|"},
	} {
		m := codeOf(c.threads, c.funcs...)
		hold(t, m, c.want)
		var reach []string
		for _, fns := range find(t, m).Reach {
			reach = append(reach, listed(fns))
		}
		if got := strings.Join(reach, " "); got != c.reach {
			t.Error(i, got, c.reach)
		}
	}
}

// P17.1: code without registers, global words, threads or anything else; the least and the greatest numbers of them.
func TestEdges(t *testing.T) {
	halt := []api.Op{{Kind: api.OReturn}}
	hold(t, api.Module{Funcs: []api.Func{{Code: halt}}}, "|")
	hold(t, api.Module{Funcs: []api.Func{{Code: halt}}, Threads: []int{0, 0, 0, 0}}, "|")
	most := api.Module{Globals: slices.Repeat([]api.Sized{{Size: 2}}, 16), Structs: slices.Repeat([]api.Sized{{}}, 4), Threads: []int{11, 11, 11, 11}}
	for fn := range 12 {
		ops := sample.Ops("new 1023 3; store 31 1023 1; load 0 31 0; put 1023 15 0 0; get 512 0 15 1; make 1 2 3; cut 1022 0 1 0 0 0; call 0 -1 0; return")
		ops[7].A = max(fn-1, 0)
		most.Funcs = append(most.Funcs, api.Func{Regs: 1024, Code: ops})
	}
	p := find(t, most)
	if !same(p, modelOf(most).points()) || len(p.Sites) != 96 || len(p.Globals[31]) != 48 || len(p.Globals[30]) != 0 || len(p.Regs[3][11][512]) != 48 || len(p.Fields[95][15]) != 0 || len(p.Fields[94][15]) != 48 {
		t.Error(told(p))
	}
}

// P17.1: of code that isn't right nothing is found.
func TestWrongCode(t *testing.T) {
	for name, change := range map[string]func(m *api.Module){
		"right":     func(m *api.Module) {},
		"nothing":   func(m *api.Module) { *m = api.Module{} },
		"register":  func(m *api.Module) { m.Funcs[0].Code[0].A = regs },
		"negative":  func(m *api.Module) { m.Funcs[0].Code[2].B = -1 },
		"word":      func(m *api.Module) { m.Funcs[0].Code[2].B = 16 },
		"global":    func(m *api.Module) { m.Globals = nil },
		"struct":    func(m *api.Module) { m.Structs[0].Size = 17 },
		"function":  func(m *api.Module) { m.Funcs[0].Code[3].A = 2 },
		"arguments": func(m *api.Module) { m.Funcs[0].Code[3].Args = nil },
		"result":    func(m *api.Module) { m.Funcs[1].Result = 2 },
		"thread":    func(m *api.Module) { m.Threads[0] = 1 },
		"uncalled":  func(m *api.Module) { m.Funcs = append(m.Funcs, api.Func{}) },
		"next":      func(m *api.Module) { m.Funcs[1].Code[0].Next = 1 },
	} {
		m := codeOf([]int{0}, "0 0: new 0 0; store 0 0 0; put 0 1 0 0; call 1 1 1 r0; return", "1 1: return r0")
		change(&m)
		p, e := points.Find(m)
		if name == "right" && e != api.OK || name != "right" && (e != api.ErrCode || !reflect.DeepEqual(p, api.Points{})) {
			t.Error(name, e, p)
		}
	}
}

// P17.1: made code, against the model.
func TestMade(t *testing.T) {
	often := []int{api.ONew, api.OMake, api.OMove, api.OCut, api.OLoad, api.OStore, api.OGet, api.OGet, api.OPut, api.OPut, api.OCall, api.OReturn}
	met := map[string]int{}
	for seed := range uint64(3000) {
		m := sample.Code(seed, often[:seed%13]...)
		p := find(t, m)
		if want := modelOf(m).points(); !same(p, want) {
			text, _ := code.Show(m)
			t.Fatalf("%d: %s, want\n%s\n%s", seed, told(p), told(want), text)
		}
		text := told(p)
		for _, what := range []string{" g", " s", "+", " 3.", "|"} {
			if strings.Contains(text, what) {
				met[what]++
			}
		}
	}
	for what, least := range map[string]int{" g": 300, " s": 300, "+": 300, " 3.": 300, "|": 3000} {
		if met[what] < least {
			t.Error(what, met[what])
		}
	}
}

// all: every list of numbers of an answer.
func all(p api.Points) [][]int {
	list := slices.Concat(p.Reach, p.Globals)
	for _, funcs := range p.Regs {
		list = append(list, slices.Concat(funcs...)...)
	}
	return append(list, slices.Concat(p.Fields...)...)
}

// P17.3, P2: what is handed in is as it was, in its spare room too; what is answered is new memory, of which no two lists share any, and is the same again.
func TestMemory(t *testing.T) {
	for seed := range uint64(200) {
		m := sample.SpareCode(sample.Code(seed, api.ONew, api.OStore, api.OPut, api.OCall, api.OMake, api.OMove))
		before := sample.WholeCode(m)
		first, second := find(t, m), find(t, m)
		want := fmt.Sprint(second)
		if fmt.Sprint(first) != want || !same(first, second) {
			t.Fatalf("%d: another answer", seed)
		}
		for i, list := range all(first) {
			room := list[:cap(list)]
			for k := range room {
				room[k] = -1 - i
			}
		}
		for i, list := range all(first) {
			if slices.ContainsFunc(list[:cap(list)], func(n int) bool { return n != -1-i }) {
				t.Fatalf("%d: shared memory", seed)
			}
		}
		clear(first.Sites[:cap(first.Sites)])
		lists := slices.Concat(append(slices.Clone(first.Regs), first.Fields)...)
		for _, list := range append(lists, first.Globals, first.Reach) {
			clear(list[:cap(list)])
		}
		if fmt.Sprint(second) != want || fmt.Sprint(find(t, m)) != want {
			t.Fatalf("%d: kept memory", seed)
		}
		if !reflect.DeepEqual(sample.WholeCode(m), before) {
			t.Fatalf("%d: changed", seed)
		}
	}
}
