package machine_test

import (
	"fmt"
	"math"
	"slices"
	"strings"
	"testing"

	"portcullis/api"
	"portcullis/sample"
)

// wild: numbers far from all others, and at their ends.
var wild = []int{math.MinInt, math.MinInt + 1, -1 << 32, -65, -64, -2, -1, 4, 5, 256, 257, 1 << 32, 1<<32 + 1, 1 << 62, math.MaxInt - 15, math.MaxInt - 1, math.MaxInt}

// Numbers as texts have them.
const (
	least    = "-9223372036854775808"
	greatest = "9223372036854775807"
)

var (
	inputs  = []int{7, -8}
	hatches = []int{42, 43, math.MinInt}
)

// threads: code whose threads run these operations, with a return behind them, each of 8 registers. Behind their functions stand SUB, which takes two words and gives their difference; PAIR, which gives 6 and 5; DEEP, which takes a word, tells it and calls itself; TOP, which takes two words and gives the last one.
func threads(texts ...string) api.Module {
	m := api.Module{
		Globals: []api.Sized{{Name: "a", Size: 1}, {Name: "b", Size: 2}, {Name: "c", Size: 1}},
		Structs: []api.Sized{{Name: "three", Size: 3}, {Name: "none"}, {Name: "most", Size: 16}},
		Chans:   []api.Sized{{Name: "x", Size: 1}, {Name: "y", Size: 3}},
		Locks:   make([]string, 2), Inputs: make([]string, 2), Sinks: make([]string, 2), Hatches: make([]string, 3),
	}
	var names []string
	for i, name := range []string{"SUB", "PAIR", "DEEP", "TOP"} {
		names = append(names, name, fmt.Sprint(len(texts)+i))
	}
	numbered := func(text string) []api.Op {
		text = strings.NewReplacer(names...).Replace(text)
		return sample.Ops(strings.TrimPrefix(text+"; return", "; "))
	}
	for i, text := range texts {
		m.Threads = append(m.Threads, i)
		m.Funcs = append(m.Funcs, api.Func{Regs: 8, Code: numbered(text)})
	}
	m.Funcs = append(m.Funcs,
		api.Func{Params: 2, Regs: 4, Result: 1, Code: sample.Ops("binary 3 0 1 2; return r3")},
		api.Func{Regs: 3, Result: 2, Code: sample.Ops("const 1 5; const 2 6; return r2 r1")},
		api.Func{Params: 1, Regs: 1, Code: numbered("out 0 0; call DEEP -1 0 r0")},
		api.Func{Params: 2, Regs: 2, Result: 1, Code: sample.Ops("return r1")})
	return m
}

// P15.1: what each operation does, and which fault it has: of one thread, a tick for each operation that the text has.
func TestOperations(t *testing.T) {
	for text, want := range map[string]string{
		"": "",
		"const 0 5; const 7 -3; const 1 " + least:          "0: 0.3>-1[5 " + least + " 0 0 0 0 0 -3]",
		"const 2 5; const 2 6; const 2 0":                  "0: 0.3>-1[]",
		"input 2 0; input 0 1":                             "0: 0.2>-1[-8 0 7]",
		"release 1 0; release 2 1; release 0 2":            "0: 0.3>-1[" + least + " 42 43]",
		"const 3 9; move 1 3; move 0 0; move 3 2":          "0: 0.4>-1[0 9]",
		"const 0 5; unary 1 0 1; unary 2 0 2; unary 0 2 2": "0: 0.4>-1[1 -5]",
		"const 0 " + least + "; unary 0 0 1":               "0: 0.2>-1[" + least + "]",
		"const 0 7; const 1 -2; binary 2 0 1 1; binary 3 0 1 2; binary 4 0 1 3; binary 5 0 1 4; binary 6 0 1 5; binary 7 0 1 6":   "0: 0.8>-1[7 -2 5 9 -14 -3 1 1]",
		"const 0 7; const 1 -2; binary 2 0 1 7; binary 3 0 1 8; binary 4 1 0 8; binary 5 0 0 9; binary 6 0 0 10; binary 7 0 1 11": "0: 0.8>-1[7 -2 1 0 1 1 1 1]",
		"const 0 " + least + "; const 1 -1; binary 2 0 1 4; binary 3 0 1 5; binary 4 0 1 1; binary 0 0 0 1":                       "0: 0.6>-1[0 -1 " + least + " 0 " + greatest + "]",
		"const 0 5; const 1 6; binary 0 0 1 4; binary 0 1 0 4":                                                                    "0: 0.3>-1[0 6] fault 1",
		"const 0 5; binary 0 0 1 5; out 0 0": "0: 0.1>-1[5] fault 1",

		// Global words: which store they come from, what is torn.
		"load 0 0 0; load 1 1 0; load 2 2 1":                                      "0: 0.3>-1[]",
		"const 0 5; store 0 0 0; const 0 6; store 3 0 0; load 1 0 0":              "0: 0.5>-1[6 5] store 2 load 1; global 0 {5 1}; global 3 {6 2}; stores 2",
		"const 0 5; store 1 0 1":                                                  "0: 0.2>-1[5]; global 1 {5 0}",
		"const 0 5; const 1 6; store 1 0 0; store 2 1 1; load 2 1 0; load 3 2 1":  "0: 0.6>-1[5 6 5 6] store 1 load 1; global 1 {5 1}; global 2 {6 1}; stores 1",
		"const 0 5; store 1 0 0; store 2 0 0; load 0 1 0; load 1 2 1; load 2 1 1": "0: 0.6>-1[5 5 5] store 2 load 1; global 1 {5 1}; global 2 {5 2}; stores 2; torn",
		"const 0 5; store 1 0 0; store 2 0 0; load 0 2 0; load 1 2 1":             "0: 0.5>-1[5 5] store 2 load 2; global 1 {5 1}; global 2 {5 2}; stores 2",
		"const 0 5; store 1 0 0; load 1 1 1":                                      "0: 0.3>-1[5 5] store 1 load 0; global 1 {5 1}; stores 1; torn",
		"const 0 5; store 1 0 0; load 1 1 0; load 1 2 1; store 2 0 1; load 2 2 1": "0: 0.6>-1[5 0 5] store 1 load 1; global 1 {5 1}; global 2 {5 1}; stores 1; torn",
		"store 0 0 0; store 1 0 1; store 2 0 1; store 0 0 0; store 3 0 1":         "0: 0.5>-1[] store 2 load 0; global 0 {0 2}; global 1 {0 1}; global 2 {0 1}; global 3 {0 2}; stores 2",

		// Objects: where they begin, which words they have.
		"new 0 0; new 1 0; new 2 1": "0: 0.3>-1[1 4]; arena 0 [{0 0} {0 0} {0 0} {0 0} {0 0} {0 0}] [{0 3 0 0} {3 3 0 1}]",
		"const 5 9; new 5 1":        "0: 0.2>-1[]",
		"new 0 0; const 1 9; put 0 2 1 0; const 1 8; put 0 0 1 0; get 2 0 2 0; get 3 0 1 0; get 0 0 0 0": "0: 0.8>-1[8 8 9] store 2 load 2; arena 0 [{8 2} {0 0} {9 1}] [{0 3 0 0}]; stores 2",
		"new 0 0; const 1 9; put 0 1 1 0; put 0 2 1 1; get 2 0 1 0; get 3 0 2 1":                         "0: 0.6>-1[1 9 9 9] store 1 load 1; arena 0 [{0 0} {9 1} {9 1}] [{0 3 0 0}]; stores 1",
		"new 0 0; put 0 1 1 0; put 0 2 1 0; get 2 0 1 0; get 3 0 2 1":                                    "0: 0.5>-1[1] store 2 load 1; arena 0 [{0 0} {0 1} {0 2}] [{0 3 0 0}]; stores 2; torn",
		"get 0 1 0 0":          "0: 0.0>-1[] fault 2",
		"get 0 1 3 1":          "0: 0.0>-1[] fault 2",
		"new 0 0; put 1 1 0 0": "0: 0.1>-1[1] fault 2; arena 0 [{0 0} {0 0} {0 0}] [{0 3 0 0}]",
		"new 0 0; get 1 0 3 0": "0: 0.1>-1[1] fault 7; arena 0 [{0 0} {0 0} {0 0}] [{0 3 0 0}]",
		"new 0 0; put 0 3 0 0": "0: 0.1>-1[1] fault 7; arena 0 [{0 0} {0 0} {0 0}] [{0 3 0 0}]",
		"new 0 0; new 1 0; put 0 3 1 0; get 2 0 3 0":      "0: 0.4>-1[1 4 4] store 1 load 1; arena 0 [{0 0} {0 0} {0 0} {4 1} {0 0} {0 0}] [{0 3 0 0} {3 3 0 1}]; stores 1",
		"const 0 -2; new 1 0; put 0 3 0 0; get 2 0 3 0":   "0: 0.4>-1[-2 1 -2] store 1 load 1; arena 0 [{-2 1} {0 0} {0 0}] [{0 3 0 1}]; stores 1",
		"const 0 -2; new 1 0; get 2 0 2 0":                "0: 0.2>-1[-2 1] fault 7; arena 0 [{0 0} {0 0} {0 0}] [{0 3 0 1}]",
		"const 0 " + greatest + "; new 1 0; get 1 0 15 0": "0: 0.2>-1[" + greatest + " 1] fault 7; arena 0 [{0 0} {0 0} {0 0}] [{0 3 0 1}]",
		"const 0 " + least + "; put 0 15 0 0":             "0: 0.1>-1[" + least + "] fault 7",

		// Slices.
		"const 0 3; make 1 2 0":                "0: 0.2>-1[3 1 3]; arena 0 [{0 0} {0 0} {0 0}] [{0 3 0 1}]",
		"const 0 1; make 0 1 0":                "0: 0.2>-1[1 1]; arena 0 [{0 0}] [{0 1 0 1}]",
		"const 0 2; make 1 0 0":                "0: 0.2>-1[2 1]; arena 0 [{0 0} {0 0}] [{0 2 0 1}]",
		"const 1 9; const 2 9; make 1 2 0":     "0: 0.3>-1[]",
		"const 0 65; make 1 2 0":               "0: 0.1>-1[65] fault 4",
		"const 0 " + greatest + "; make 1 2 0": "0: 0.1>-1[" + greatest + "] fault 4",
		"const 0 -1; make 1 2 0":               "0: 0.1>-1[-1] fault 3",
		"const 0 " + least + "; make 1 2 0":    "0: 0.1>-1[" + least + "] fault 3",
		"const 0 2; make 1 2 0; const 3 1; elem 1 2 3 0; index 4 1 2 3; index 5 1 2 6; index 3 1 2 3": "0: 0.7>-1[2 1 2 2 2]; arena 0 [{0 0} {2 1}] [{0 2 0 1}]; stores 1",
		"const 0 2; make 1 2 0; index 3 1 2 0":                                                        "0: 0.2>-1[2 1 2] fault 3; arena 0 [{0 0} {0 0}] [{0 2 0 1}]",
		"const 0 2; make 1 2 0; const 3 -1; index 4 1 2 3":                                            "0: 0.3>-1[2 1 2 -1] fault 3; arena 0 [{0 0} {0 0}] [{0 2 0 1}]",
		"const 0 2; make 1 2 0; elem 1 2 0 0":                                                         "0: 0.2>-1[2 1 2] fault 3; arena 0 [{0 0} {0 0}] [{0 2 0 1}]",
		"const 0 2; make 1 2 0; const 3 -1; elem 1 2 3 0":                                             "0: 0.3>-1[2 1 2 -1] fault 3; arena 0 [{0 0} {0 0}] [{0 2 0 1}]",
		"index 0 1 2 3": "0: 0.0>-1[] fault 3",
		"elem 1 2 0 3":  "0: 0.0>-1[] fault 3",
		"const 0 " + least + "; const 1 " + greatest + "; index 2 0 1 0": "0: 0.2>-1[" + least + " " + greatest + "] fault 3",
		"const 0 " + greatest + "; index 2 3 0 0":                        "0: 0.1>-1[" + greatest + "] fault 3",
		"const 0 5; index 1 2 0 3":                                       "0: 0.1>-1[5] fault 7",
		"const 0 5; elem 1 0 2 3":                                        "0: 0.1>-1[5] fault 7",
		"const 0 1; make 1 2 0; const 3 5; index 4 1 3 0":                "0: 0.3>-1[1 1 1 5] fault 7; arena 0 [{0 0}] [{0 1 0 1}]",
		"const 0 1; make 1 2 0; const 3 5; elem 1 3 0 0":                 "0: 0.3>-1[1 1 1 5] fault 7; arena 0 [{0 0}] [{0 1 0 1}]",

		// An element's store is nothing to the slice's own words.
		"const 0 1; store 1 0 0; make 1 2 0; elem 1 2 3 0; store 2 0 1; load 4 1 0; index 5 1 2 3; load 6 2 1": "0: 0.8>-1[1 1 1 0 1 1 1] store 1 load 1; arena 0 [{1 2}] [{0 1 0 2}]; global 1 {1 1}; global 2 {1 1}; stores 2",

		// Elements of no object, or of another than where the slice begins.
		"new 0 0; new 1 0; const 2 9; const 3 3; index 4 0 2 3":                                                              "0: 0.5>-1[1 4 9 3]; arena 0 [{0 0} {0 0} {0 0} {0 0} {0 0} {0 0}] [{0 3 0 0} {3 3 0 1}]; wild",
		"new 0 0; new 1 0; const 2 9; const 3 3; elem 0 2 3 2":                                                               "0: 0.5>-1[1 4 9 3]; arena 0 [{0 0} {0 0} {0 0} {9 1} {0 0} {0 0}] [{0 3 0 0} {3 3 0 1}]; stores 1; wild",
		"new 0 0; new 1 0; const 2 9; const 3 2; elem 0 2 3 2; const 0 2; const 3 1; index 0 0 2 3":                          "0: 0.8>-1[9 4 9 1]; arena 0 [{0 0} {0 0} {9 1} {0 0} {0 0} {0 0}] [{0 3 0 0} {3 3 0 1}]; stores 1",
		"new 0 0; const 2 9; const 3 1; index 4 5 2 3":                                                                       "0: 0.4>-1[1 0 9 1]; arena 0 [{0 0} {0 0} {0 0}] [{0 3 0 0}]; wild",
		"new 0 0; const 1 -4; const 2 9; const 3 5; elem 1 2 3 2; index 4 1 2 3":                                             "0: 0.6>-1[1 -4 9 5 9]; arena 0 [{9 1} {0 0} {0 0}] [{0 3 0 0}]; stores 1; wild",
		"new 0 0; const 1 " + greatest + "; const 2 9; const 3 2; index 4 1 2 3":                                             "0: 0.4>-1[1 " + greatest + " 9 2] fault 7; arena 0 [{0 0} {0 0} {0 0}] [{0 3 0 0}]",
		"new 0 0; const 1 " + least + "; const 2 " + greatest + "; binary 3 2 4 1; const 4 2; binary 1 1 4 1; index 5 1 2 3": "0: 0.6>-1[1 -9223372036854775806 " + greatest + " " + greatest + " 2] fault 3; arena 0 [{0 0} {0 0} {0 0}] [{0 3 0 0}]",
		"new 0 0; const 1 -9223372036854775805; const 2 " + greatest + "; const 3 9223372036854775806; index 4 1 2 3":        "0: 0.5>-1[1 -9223372036854775805 " + greatest + " 9223372036854775806]; arena 0 [{0 0} {0 0} {0 0}] [{0 3 0 0}]; wild",

		// Cuts.
		"const 2 10; const 3 5; const 4 1; const 5 4; cut 0 1 2 3 4 5":                      "0: 0.5>-1[11 3 10 5 1 4]",
		"const 2 10; const 3 5; const 5 5; cut 0 1 2 3 4 5; cut 6 7 2 3 3 5":                "0: 0.5>-1[10 5 10 5 0 5]",
		"const 0 9; const 1 9; const 2 10; cut 0 1 2 3 4 5":                                 "0: 0.4>-1[0 0 10]",
		"const 2 10; const 3 5; const 4 5; const 5 5; cut 2 3 2 3 4 5":                      "0: 0.5>-1[0 0 0 0 5 5]",
		"const 2 10; const 3 5; const 4 1; const 5 4; cut 2 3 2 3 4 5":                      "0: 0.5>-1[0 0 11 3 1 4]",
		"const 2 10; const 3 5; const 4 1; const 5 4; cut 3 2 2 3 4 5":                      "0: 0.5>-1[0 0 3 11 1 4]",
		"const 2 10; const 3 5; const 4 1; const 5 4; cut 4 5 2 3 4 5":                      "0: 0.5>-1[0 0 10 5 11 3]",
		"const 2 10; const 3 5; const 4 1; const 5 4; cut 5 4 2 3 4 5":                      "0: 0.5>-1[0 0 10 5 3 11]",
		"const 2 10; const 3 5; const 4 2; const 5 2; cut 5 4 2 3 4 5":                      "0: 0.5>-1[0 0 10 5]",
		"const 2 10; const 3 5; const 4 1; const 5 6; cut 0 1 2 3 4 5":                      "0: 0.4>-1[0 0 10 5 1 6] fault 3",
		"const 2 10; const 3 5; const 4 4; const 5 3; cut 0 1 2 3 4 5":                      "0: 0.4>-1[0 0 10 5 4 3] fault 3",
		"const 2 10; const 3 5; const 4 -1; const 5 3; cut 0 1 2 3 4 5":                     "0: 0.4>-1[0 0 10 5 -1 3] fault 3",
		"const 2 10; const 3 5; const 4 6; const 5 6; cut 0 1 2 3 4 5":                      "0: 0.4>-1[0 0 10 5 6 6] fault 3",
		"const 3 -1; cut 0 1 2 3 4 5":                                                       "0: 0.1>-1[0 0 0 -1] fault 3",
		"const 3 -1; const 4 -2; const 5 -2; cut 0 1 2 3 4 5":                               "0: 0.3>-1[0 0 0 -1 -2 -2] fault 3",
		"const 2 10; const 3 5; const 4 " + least + "; const 5 3; cut 0 1 2 3 4 5":          "0: 0.4>-1[0 0 10 5 " + least + " 3] fault 3",
		"const 2 2; const 3 " + greatest + "; const 4 9223372036854775806; cut 0 1 2 3 4 3": "0: 0.4>-1[" + least + " 1 2 " + greatest + " 9223372036854775806]",

		// Locks, channels, sinks.
		"lock 1; lock 0; unlock 1":                          "0: 0.3>-1[]; holder 0 0",
		"lock 1; unlock 1; lock 1":                          "0: 0.3>-1[]; holder 1 0",
		"lock 1; lock 1":                                    "0: 0.1>-1[]; holder 1 0",
		"unlock 0":                                          "0: 0.0>-1[] fault 6",
		"lock 1; unlock 0":                                  "0: 0.1>-1[] fault 6; holder 1 0",
		"lock 1; unlock 1; unlock 1":                        "0: 0.2>-1[] fault 6",
		"const 0 5; send 0 0; recv 3 0":                     "0: 0.3>-1[5 0 0 5]",
		"const 0 5; send 0 0; send 0 1":                     "0: 0.2>-1[5]; queue 0 [5]",
		"recv 0 0":                                          "",
		"const 0 5; send 1 0; send 1 1; send 1 0; send 1 1": "0: 0.4>-1[5]; queue 1 [5 0 5]",
		"const 0 5; send 1 0; send 1 1; send 1 0; recv 2 1; send 1 2; recv 3 1; recv 4 1; recv 5 1; recv 6 1": "0: 0.9>-1[5 0 5 0 5 5]",
		"const 0 5; out 1 0; out 0 0; out 1 1": "0: 0.4>-1[5]; event {1 0 1 5}; event {2 0 0 5}; event {3 0 1 0}",

		// Where it goes on.
		"if 0 > 0 | 1": "0: 0.1>-1[]",
		"const 0 " + least + "; if 0 > 2 | 0; const 1 1": "0: 0.3>-1[" + least + " 1]",
		"const 0 -1; if 0 > 0 | 2; const 0 2; const 0 3": "0: 0.0>-1[-1]",
		"if 0 > 2 | 0; const 0 1":                        "",
		"const 0 1 > 2; const 0 9 > 1; const 1 2 > 1":    "0: 0.1>-1[9 2]",
		"return; const 0 1":                              "0:",
		"lock 1; return; return":                         "0:; holder 1 0",

		// Calls.
		"const 0 9; const 1 4; call SUB 3 1 r0 r1":                       "0: 0.3>-1[9 4] 1.0>3[9 4]",
		"const 0 9; const 1 4; call SUB 3 1 r1 r0; const 0 1 > 3":        "0: 0.3>-1[9 4] 1.1>3[4 9 0 -5]",
		"const 0 9; call SUB 7 1 r0 r0; const 7 1; const 7 2; const 7 3": "0: 0.3>-1[9 0 0 0 0 0 0 1]",
		"const 1 4; call SUB 0 1 r0 r1 > 0; return":                      "0: 0.0>-1[0 4] 1.1>0[0 4 0 -4]",
		"const 1 4; call SUB -1 0 r0 r1; return; return":                 "0: 0.2>-1[0 4]",
		"const 7 1; call PAIR 6 2; return; return; return":               "0: 0.2>-1[0 0 0 0 0 0 6 5]",
		"const 0 1; call PAIR 0 2; return; return; return":               "0: 0.2>-1[6 5]",
		"const 0 1; call PAIR -1 0; return; return; return":              "0: 0.2>-1[1]",
		"const 6 3; const 7 8; call TOP 7 1 r7 r6; const 0 1":            "0: 0.3>-1[0 0 0 0 0 0 3 3]",
		"const 0 1; call DEEP -1 0 r0; return; return; return; return":   "0: 0.2>-1[1] 3.2>-1[1] 3.2>-1[1] 3.0>-1[1]; event {2 0 0 1}; event {4 0 0 1}",
	} {
		b := begin(t, threads(text), inputs, hatches)
		if text != "" {
			b.run(make([]int, strings.Count(text, ";")+1)...)
		}
		if got := told(b.x.State()); got != want {
			t.Errorf("%s\n%s, want\n%s", text, got, want)
		}
	}
}

// P15.1: objects of any size in any room that is left: those that there is room for, each behind the last one; FArena for others.
func TestArena(t *testing.T) {
	for used := range 65 {
		for _, size := range []int{0, 1, 3, 16, 63 - used, 64 - used, 65 - used, 64, 65, 1 << 32, math.MaxInt - used, math.MaxInt} {
			if size < 0 {
				continue
			}
			last := []string{"make 3 4 0"}
			if number := slices.Index([]int{3, 0, 16}, size); number >= 0 {
				last = append(last, fmt.Sprint("new 3 ", number))
			}
			for _, o := range last {
				b := begin(t, threads("", fmt.Sprint("const 0 ", used, "; make 1 2 0; const 0 ", size, ";", o)), inputs, hatches)
				b.run(1, 1, 1, 1)
				s := b.x.State()
				got := s.Threads[1]
				words, address, fault := used+size, 65+used, 0
				if size == 0 {
					address = 0
				}
				if size > 64-used {
					words, address, fault = used, 0, api.FArena
				}
				if got.Fault != fault || got.Frames[0].Regs[3] != address || len(s.Arenas[1]) != words || len(s.Arenas[0]) != 0 {
					t.Error(used, size, o, told(s))
				}
			}
		}
	}
}

// P15.1: as many calls as may be, and one more: the fault leaves them all as they were.
func TestFrames(t *testing.T) {
	for first, word := range map[string]int{"const 0 3; call DEEP -1 0 r0": 3, "const 0 3; const 1 -6; call SUB 0 1 r0 r1; call DEEP -1 0 r0": 9} {
		b := begin(t, threads(first, "lock 1; const 0 1; out 0 0; unlock 1"), inputs, hatches)
		for len(b.m.Threads[0].Frames) < 8 {
			b.run(0)
		}
		b.run(0)
		before := b.x.State()
		for _, f := range before.Threads[0].Frames[1:7] {
			if f.Func != 4 || f.Pc != 2 || f.To != -1 || !slices.Equal(f.Regs, []int{word}) {
				t.Error(f)
			}
		}
		if last := before.Threads[0].Frames[7]; last.Pc != 1 || before.Threads[0].Fault != 0 || len(before.Events) != 7 {
			t.Error(told(before))
		}
		b.run(0)
		after := b.x.State()
		if after.Threads[0].Fault != api.FFrames || !b.x.Ended(0) {
			t.Error(told(after))
		}
		after.Threads[0].Fault, after.Tick = 0, before.Tick
		if !same(before, after) {
			t.Error(told(after))
		}
		b.run(0, 0, 1, 1, 1, 1, 1, 0)
		if !b.x.Ended(1) || len(b.x.State().Events) != 8 {
			t.Error(told(b.x.State()))
		}
	}
}

// P15.1: calls within each other give their results back, each to where it was called; registers of a call that is gone are nobody's.
func TestResults(t *testing.T) {
	m := api.Module{Threads: []int{0}, Sinks: []string{"o"}, Inputs: []string{"i"}, Funcs: []api.Func{
		{Regs: 2, Code: sample.Ops("input 0 0; call 1 0 1 r0; out 0 0; call 1 1 1 r1; out 0 1; return")},
		// The product of all from 1 on; of none and of less it is 1, in a register that must be 0 at first.
		{Params: 1, Regs: 4, Result: 1, Code: sample.Ops("binary 2 1 0 8; if 2 > 4 | 2; const 1 1; return r1; const 3 -1; binary 3 0 3 1; const 1 1; if 0 > 8 | 2; call 1 1 1 r3; binary 1 0 1 3; return r1")},
	}}
	for input, want := range map[int][2]int{5: {120, 1}, 0: {1, 1}, -3: {1, 1}, 3: {6, 1}, 1: {1, 1}} {
		b := begin(t, m, []int{input}, nil)
		b.run(make([]int, 100)...)
		s := b.x.State()
		if len(s.Events) != 2 || s.Events[0].Value != want[0] || s.Events[1].Value != want[1] || !b.x.Ended(0) || s.Threads[0].Fault != 0 {
			t.Error(input, told(s))
		}
	}
	// Seven calls within the first are as many as may be; eight end it.
	for input, fault := range map[int]int{6: 0, 7: api.FFrames} {
		b := begin(t, m, []int{input}, nil)
		b.run(make([]int, 120)...)
		if s := b.x.State(); s.Threads[0].Fault != fault || !b.x.Ended(0) {
			t.Error(input, told(s))
		}
	}
}

// P15.1: what several threads do with what they share, by the picks: a digit each.
func TestThreads(t *testing.T) {
	for _, c := range []struct {
		texts       []string
		picks, want string
	}{
		// Who doesn't hold a lock waits, and can't give it back; who has ended holds it still.
		{[]string{"lock 0; unlock 0", "lock 0; unlock 0"}, "0 1 1", "0: 0.1>-1[]; holder 0 0"},
		{[]string{"lock 0; unlock 0", "lock 0; unlock 0"}, "0 1 0 1", "0: 0.2>-1[]; 1: 1.1>-1[]; holder 0 1"},
		{[]string{"lock 0", "unlock 0"}, "0 1", "0: 0.1>-1[]; 1: 1.0>-1[] fault 6; holder 0 0"},
		{[]string{"lock 0", "lock 0"}, "0 0 1 0 1", "0:; holder 0 0"},
		{[]string{"lock 0; get 0 0 0 0", "lock 1; lock 0", "const 1 7; out 1 1"}, "0 0 1 1 2 2 0 2", "0: 0.1>-1[] fault 2; 1: 1.1>-1[]; 2:; holder 0 0; holder 1 1; event {5 2 1 7}"},
		{[]string{"lock 0; lock 1", "lock 1; lock 0"}, "0 1 0 1 0 1", "0: 0.1>-1[]; 1: 1.1>-1[]; holder 0 0; holder 1 1"},
		{[]string{"lock 0", "", "", "lock 1; unlock 0"}, "0 3 3", "0: 0.1>-1[]; 3: 3.1>-1[] fault 6; holder 0 0; holder 1 3"},
		// Channels: the first in is the first out, whoever it is from; who finds no place, or nothing, waits.
		{[]string{"const 0 5; send 1 0; send 1 0; send 1 0", "const 0 6; send 1 0", "recv 0 1; recv 1 1; recv 2 1"}, "2 0 0 1 1 0 0 2 0 2 2", "0: 0.4>-1[5]; 1: 1.2>-1[6]; 2: 2.3>-1[5 6 5]; queue 1 [5]"},
		{[]string{"const 0 5; send 0 0; send 0 0", "recv 0 0; recv 1 0"}, "1 0 0 0 0 1 1 0", "0: 0.3>-1[5]; 1: 1.1>-1[5]; queue 0 [5]"},
		{[]string{"const 0 5; send 0 0", "recv 0 1"}, "1 0 0 1", "0: 0.2>-1[5]; queue 0 [5]"},
		// Each thread has memory, stores and loads of its own; what they point to is anybody's.
		{[]string{"new 0 0; store 0 0 0; put 0 1 0 0", "load 0 0 0; get 1 0 1 0; put 0 2 1 0; new 2 0"}, "0 0 0 1 1 1 1", "0: 0.3>-1[1] store 2 load 0; 1: 1.4>-1[1 1 65] store 3 load 2; arena 0 [{0 0} {1 2} {1 3}] [{0 3 0 0}]; arena 1 [{0 0} {0 0} {0 0}] [{0 3 1 3}]; global 0 {1 1}; stores 3"},
		{[]string{"store 1 0 0; store 2 0 1", "store 1 0 0; store 2 0 1", "load 0 1 0; load 0 2 1"}, "0 1 0 1 2 2", "0: 0.2>-1[] store 1 load 0; 1: 1.2>-1[] store 2 load 0; 2: 2.2>-1[] store 0 load 2; global 1 {0 2}; global 2 {0 2}; stores 2"},
		{[]string{"store 1 0 0; store 2 0 1", "store 1 0 0; store 2 0 1", "load 0 1 0; load 0 2 1"}, "0 1 1 0 2 2", "0: 0.2>-1[] store 1 load 0; 1: 1.2>-1[] store 2 load 0; 2: 2.2>-1[] store 0 load 2; global 1 {0 2}; global 2 {0 1}; stores 2; torn"},
		{[]string{"store 1 0 0; store 2 0 1", "load 0 1 0; load 0 2 1"}, "0 1 1 0 0", "0: store 1 load 0; 1: 1.2>-1[] store 0 load 1; global 1 {0 1}; global 2 {0 1}; stores 1; torn"},
		{[]string{"store 1 0 0; store 2 0 1", "load 0 1 0; load 0 2 1"}, "1 0 0 1", "0: 0.2>-1[] store 1 load 0; 1: 1.2>-1[]; global 1 {0 1}; global 2 {0 1}; stores 1; torn"},
		// Elements of two threads' objects.
		{[]string{"const 0 1; make 0 1 0", "const 0 64; make 0 1 0; const 2 -1; const 3 9; binary 0 0 2 1; const 1 2; const 2 1; index 4 0 1 2"}, "0 0 1 1 1 1 1 1 1 1", "0: 0.2>-1[1 1]; 1: 1.8>-1[64 2 1 9]; arena 0 [{0 0}] [{0 1 0 1}]; arena 1 " + sixtyFour(1, 1) + "; wild"},
		{[]string{"const 0 64; make 0 1 0", "const 0 1; make 0 1 0; const 0 64; const 1 2; const 2 1; const 3 9; elem 0 1 2 3"}, "0 0 1 1 1 1 1 1 1", "0: 0.2>-1[1 64]; 1: 1.7>-1[64 2 1 9]; arena 0 " + sixtyFour(0, 1) + "; arena 1 [{9 1}] [{0 1 1 1}]; stores 1; wild"},
		// A thread alone ends.
		{[]string{"binary 0 0 0 4", "const 0 3; out 1 0", "", "const 0 4; out 0 0"}, "0 1 0 3 2 1 0 2 3 3 1", "0: 0.0>-1[] fault 1; 1:; 2:; 3:; event {5 1 1 3}; event {8 3 0 4}"},
	} {
		b := begin(t, threads(c.texts...), inputs, hatches)
		b.run(digits(c.picks)...)
		if got := told(b.x.State()); got != c.want || b.x.State().Tick != len(digits(c.picks)) {
			t.Errorf("%q %s:\n%s, want\n%s", c.texts, c.picks, got, c.want)
		}
	}
}

// sixtyFour: an arena of one object, which an operation of a function made.
func sixtyFour(f, op int) string {
	return fmt.Sprint(make([]api.Word, 64), " ", []api.Object{{Size: 64, Func: f, Op: op}})
}
