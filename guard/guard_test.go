package guard_test

import (
	"math"
	"math/rand/v2"
	"reflect"
	"slices"
	"strings"
	"testing"

	"portcullis/api"
	"portcullis/code"
	"portcullis/guard"
	"portcullis/sample"
)

// hold holds what is found of code against what is told by hand and against the model.
func hold(t *testing.T, m api.Module, want string) {
	t.Helper()
	got := told(find(t, m))
	if got != want {
		t.Errorf("%s, want\n%s", got, want)
	}
	if by := told(modelOf(t, m).find()); got != by {
		t.Errorf("%s, the model says\n%s", got, by)
	}
}

// P19.1: what each operation touches: of one thread.
func TestOperations(t *testing.T) {
	for text, want := range map[string]string{
		"": "",
		// Global words.
		"load 0 0 0":               "g0=1/0@0",
		"load 0 4 1":               "g4=1/0@0",
		"store 0 3 0":              "g0w=1/0@0",
		"store 4 1 1":              "g4w=1/0@0",
		"load 0 2 0; store 1 2 1":  "g1w=1/0@1 g2=1/0@0",
		"load 0 2 0; store 2 0 0":  "g2w=1/0@0",
		"store 2 0 0; load 0 2 0":  "g2w=1/0@0",
		"load 0 2 0; load 0 2 1":   "g2=1/0@0",
		"store 0 0 0; store 0 0 0": "g0w=1/0@0",
		// Words of objects.
		"new 0 0; get 1 0 2 0":                                  "s0.2=1/0@1",
		"new 1 0; get 0 1 15 1":                                 "s0.15=1/0@1",
		"new 0 1; put 0 0 1 0":                                  "s0.0w=1/0@1",
		"new 1 0; new 0 0; put 0 3 1 1":                         "s1.3w=1/0@2",
		"new 0 0; get 1 2 0 0; put 2 0 0 0; put 3 0 0 0":        "",
		"new 0 0; get 1 0 0 0; put 0 0 1 0; get 1 0 1 0":        "s0.0w=1/0@1 s0.1=1/0@3",
		"make 2 3 4; put 2 7 3 0":                               "s0.7w=1/0@1",
		"new 0 0; new 1 0; if 2 > 4 | 3; move 0 1; put 0 1 2 0": "s0.1w=1/0@4 s1.1w=1/0@4",
		"new 0 0; put 0 9 0 0; get 1 0 9 0; get 2 1 8 0":        "s0.8=1/0@3 s0.9w=1/0@1",
		// Elements.
		"make 0 1 2; index 3 0 1 2":                                                   "e0=1/0@1",
		"make 0 1 2; index 3 1 0 0; elem 1 0 0 0":                                     "",
		"make 0 1 2; elem 0 1 2 3":                                                    "e0w=1/0@1",
		"make 4 5 2; move 0 4; elem 1 0 0 4; index 0 1 2 3; index 1 0 2 3":            "e0=1/0@4",
		"make 0 1 2; cut 2 3 0 1 4 5; elem 2 3 0 0; index 4 0 1 1":                    "e0w=1/0@2",
		"new 0 0; index 1 0 2 3; get 1 0 1 0":                                         "s0.1=1/0@2 e0=1/0@1",
		"make 0 1 5; make 2 3 5; if 5 > 3 | 4; move 2 0; elem 2 3 5 5; index 5 0 1 4": "e0w=1/0@4 e1w=1/0@4",
		// All others touch nothing.
		"new 0 0; make 0 1 2; const 2 5; input 2 1; release 2 1; move 3 0; unary 0 0 1; binary 0 1 2 3; cut 0 1 3 3 0 1; send 0 0; recv 1 0; out 1 0; if 0 > 13 | 13; lock 0; unlock 0": "",
		// Which locks are held for sure, wherever it is touched.
		"lock 3; load 0 0 0": "g0=1/8@1",
		"lock 3; lock 0; load 0 0 0; unlock 3; store 0 0 0":                                    "g0w=1/1@2",
		"lock 0; load 0 0 0; unlock 0; lock 1; load 0 0 0":                                     "g0=1/0@1",
		"lock 0; load 0 0 0; unlock 0; load 0 1 0":                                             "g0=1/1@1 g1=1/0@3",
		"if 0 > 1 | 2; lock 2; load 0 0 0; lock 7; load 0 1 0":                                 "g0=1/0@2 g1=1/128@4",
		"lock 0; lock 1; lock 2; lock 3; lock 4; lock 5; lock 6; lock 7; new 0 0; put 0 0 0 0": "s0.0w=1/255@9",
		// Where nobody comes, nothing is touched.
		"return; store 0 0 0":                                  "",
		"lock 0; load 0 0 0; return; store 0 0 0":              "g0=1/1@1",
		"const 0 0 > 3; new 0 0; store 0 0 0; put 0 0 0 0":     "s0.0w=1/0@3",
		"new 0 0; const 1 1 > 1; put 0 0 0 0; elem 0 0 0 0":    "",
		"if 0 > 2 | 3; lock 0; load 0 0 0; lock 1; load 0 0 0": "g0=1/0@2",
	} {
		hold(t, codeOf([]int{0}, "0 0:"+strings.TrimPrefix(text+"; return", "; ")), want)
	}
}

// P19.1: several threads, and calls.
func TestThreads(t *testing.T) {
	for _, c := range []struct {
		threads []int
		want    string
		funcs   []string
	}{
		{nil, "", []string{"0 0: store 0 0 0; return"}},
		{[]int{0, 1}, "g0w=3/0@0", []string{"0 0: store 0 0 0; return", "0 0: lock 0; load 0 0 0; return"}},
		{[]int{1, 0}, "g0w=3/0@0 g1=1/1@2", []string{"0 0: store 0 0 0; return", "0 0: lock 0; load 0 0 0; load 0 1 0; return"}},
		{[]int{0, 0, 0, 0}, "g0w=15/128@1", []string{"0 0: lock 7; store 0 0 0; return"}},
		{[]int{0, 1, 0, 1}, "g0w=15/2@2 g3=5/3@3 g4w=10/2@3", []string{"0 0: lock 0; lock 1; load 0 0 0; load 0 3 1; return", "0 0: const 0 0; lock 1; store 0 0 0; store 4 0 0; return"}},
		{[]int{2, 0, 1}, "g0=6/1@1 g1w=1/4@1", []string{"0 0: lock 0; load 0 0 0; return", "0 0: lock 0; lock 1; load 0 0 0; return", "0 0: lock 2; store 1 0 0; return"}},
		// Each thread has sites of its own; what one makes others come by through global words.
		{[]int{0, 0}, "s0.0w=1/0@1 s1.0w=2/0@1", []string{"0 0: new 0 0; put 0 0 0 0; return"}},
		{[]int{0, 1}, "g0w=3/0@0 s0.1w=3/0@1", []string{"0 0: new 0 0; store 0 0 0; put 0 1 2 0; return", "0 0: load 0 0 0; get 1 0 1 0; return"}},
		{[]int{0, 0}, "g0w=3/1@2 s0.2=3/0@5 s1.2=3/0@5", []string{"0 0: new 0 0; lock 0; store 0 0 0; load 1 0 0; unlock 0; get 1 1 2 0; return"}},
		{[]int{0, 1, 2}, "g1w=7/0@0 e0w=6/4@2", []string{"0 0: make 0 1 2; store 1 0 0; return", "0 0: lock 2; load 0 1 0; elem 0 1 2 3; return", "0 0: load 3 1 0; lock 2; index 1 3 4 5; return"}},
		// The functions that a thread calls, with what it holds there.
		{[]int{0}, "g0w=1/1@0", []string{"0 0: lock 0; call 1 -1 0; unlock 0; return", "0 0: store 0 0 0; return"}},
		{[]int{0}, "g0w=1/0@0", []string{"0 0: call 1 -1 0; lock 0; call 1 -1 0; return", "0 0: store 0 0 0; return"}},
		{[]int{0, 2}, "g0w=3/1@0", []string{"0 0: lock 0; lock 1; call 1 -1 0; return", "0 0: store 0 0 0; return", "0 0: lock 3; lock 0; call 1 -1 0; return"}},
		{[]int{0}, "g2=1/2@1 s0.3w=1/2@0", []string{"0 0: new 2 1; lock 1; call 1 -1 0 r2; load 0 2 0; return", "1 0: put 0 3 0 0; load 1 2 1; return"}},
		{[]int{0}, "s0.1=1/0@1", []string{"0 0: call 1 3 1; get 0 3 1 0; return", "0 1: new 4 0; return r4"}},
		{[]int{0, 1}, "g0=2/0@0 g1w=1/0@0", []string{"0 0: call 2 -1 0; return", "0 0: load 0 0 0; return", "0 0: store 1 0 0; return"}},
		// Functions to which no thread comes.
		{[]int{0}, "", []string{"0 0: return; call 1 -1 0; return", "0 0: store 0 0 0; return"}},
		{[]int{0}, "", []string{"0 0: return", "0 0: store 0 0 0; return"}},
		{[]int{0}, "g0=1/0@0", []string{"0 0: call 1 -1 0; store 0 0 0; return", "0 0: load 0 0 0; const 0 0 > 1; return"}},
		{[]int{0, 1}, "g0w=2/0@0", []string{"0 0: return; call 2 -1 0; return", "0 0: call 2 -1 0; return", "0 0: store 0 0 0; return"}},
	} {
		hold(t, codeOf(c.threads, c.funcs...), c.want)
	}
}

// P19.1: places stand by kinds, then by their numbers, not by their texts, nor in the order in which they are come to.
func TestOrder(t *testing.T) {
	text, want := "0 0: ", ""
	for range 12 {
		text += "new 0 1; "
	}
	hold(t, codeOf([]int{0}, text+"return"), want)
	text += "index 1 0 0 0; get 1 0 12 0; put 0 3 1 0; get 1 0 2 0; load 1 4 0; load 1 0 0; return"
	words, last := "g0=1/0@17 g4=1/0@16", ""
	for _, site := range strings.Fields("0 1 2 3 4 5 6 7 8 9 10 11") {
		words += " s" + site + ".2=1/0@15 s" + site + ".3w=1/0@14 s" + site + ".12=1/0@13"
		last += " e" + site + "=1/0@12"
	}
	hold(t, codeOf([]int{0}, text), words+last)
}

// P19.1: places in the text may be any numbers.
func TestLeast(t *testing.T) {
	for _, c := range [][]int{{5, 3, 4, 3}, {0, 1, 2, 0}, {0, -1, 7, -1}, {math.MinInt, math.MaxInt, 0, math.MinInt}, {math.MaxInt, math.MaxInt, math.MaxInt, math.MaxInt}, {-5, -7, -6, -7}, {1, 0, math.MaxInt, 0}} {
		m := codeOf([]int{0, 1, 0, 1}, "0 0: load 0 0 0; store 0 0 0; return", "0 0: load 0 0 0; return")
		m.Funcs[0].Code[0].At, m.Funcs[0].Code[1].At, m.Funcs[1].Code[0].At = c[0], c[1], c[2]
		want := []api.Diag{{At: c[3], Code: api.ErrRace, Name: "a"}}
		if list := find(t, m); len(list) != 1 || list[0].At != c[3] || !slices.Equal(guard.Check(m), want) {
			t.Error(c, list)
		}
	}
}

// P19.1, P19.2: code without threads, registers, globals or anything else, and of one function of a name without a sign.
func TestEdges(t *testing.T) {
	halt := []api.Op{{Kind: api.OReturn}}
	hold(t, api.Module{Funcs: []api.Func{{Code: halt}}}, "")
	hold(t, api.Module{Funcs: []api.Func{{Code: halt}}, Threads: []int{0, 0, 0, 0}}, "")
	m := codeOf([]int{0, 0}, "0 0: store 0 0 0; return")
	m.Globals, m.Locks = []api.Sized{{Size: 1}}, nil
	hold(t, m, "g0w=3/0@0")
	holdCheck(t, m, "race")
	most := codeOf([]int{11, 11, 0, 5}, slices.Repeat([]string{"0 0: new 0 0; store 0 0 0; put 0 0 0 0; return"}, 12)...)
	most.Globals = slices.Repeat([]api.Sized{{Name: "g", Size: 2}}, 16)
	most.Funcs[5].Code[1].A = 31
	hold(t, most, "g0w=7/0@1 g31w=8/0@1 s0.0w=1/0@2 s1.0w=2/0@2 s2.0w=4/0@2 s3.0w=8/0@2")
	holdCheck(t, most, "|race g")
}

// holdCheck holds what is told of code against what is told by hand, where each place is that of its number, and against the model.
func holdCheck(t *testing.T, m api.Module, want string) {
	t.Helper()
	places := []int{0, 1, 2, 3, 4, 5, 6, 7, 8, 9}
	got, list := guard.Check(m), sample.Wanted(want, places)
	if !slices.Equal(got, list) {
		t.Errorf("%v, want %v", got, list)
	}
	if by := modelOf(t, m).check(); !slices.Equal(got, by) {
		t.Errorf("%v, the model says %v", got, by)
	}
}

// P19.2: which places are open, and what is told of them; "|" goes on to the next operation.
func TestOpen(t *testing.T) {
	for _, c := range []struct {
		threads []int
		want    string
		funcs   []string
	}{
		// Two threads or more, of which one writes, and no lock.
		{[]int{0, 0}, "race a", []string{"0 0: store 0 0 0; return"}},
		{[]int{0}, "", []string{"0 0: store 0 0 0; return"}},
		{[]int{0, 0}, "", []string{"0 0: load 0 0 0; return"}},
		{[]int{0, 0, 1}, "race a", []string{"0 0: load 0 0 0; return", "0 0: store 0 0 0; return"}},
		{[]int{0, 1}, "", []string{"0 0: load 0 0 0; return", "0 0: store 1 0 0; return"}},
		{[]int{0, 0, 0, 0}, "", []string{"0 0: lock 0; store 0 0 0; return"}},
		{[]int{0, 0, 0, 1}, "|race a", []string{"0 0: lock 0; store 0 0 0; return", "0 0: lock 1; store 0 0 0; return"}},
		{[]int{0, 1}, "", []string{"0 0: lock 0; lock 7; store 0 0 0; return", "0 0: lock 1; lock 7; store 0 0 0; return"}},
		{[]int{0, 1, 2}, "||race a", []string{"0 0: lock 0; lock 1; store 0 0 0; return", "0 0: lock 1; lock 2; store 0 0 0; return", "0 0: lock 2; lock 0; store 0 0 0; return"}},
		{[]int{0, 1}, "|race a", []string{"0 0: lock 0; store 0 0 0; unlock 0; load 0 0 0; return", "0 0: lock 0; load 0 0 0; return"}},
		{[]int{0, 1}, "", []string{"0 0: lock 0; store 0 0 0; unlock 0; return; load 0 0 0; return", "0 0: lock 0; load 0 0 0; return"}},
		// Whose word it is.
		{[]int{0, 0}, "race a|race b|race b|race c|race c", []string{"0 0: store 0 0 0; store 1 0 0; store 2 0 0; store 3 0 0; store 4 0 0; return"}},
		{[]int{0, 0}, "race c|race b|race a", []string{"0 0: store 4 0 0; store 2 0 0; store 0 0 0; return"}},
		{[]int{0, 1}, "race a", []string{"0 0: new 0 0; store 0 0 0; put 0 1 2 0; return", "0 0: load 0 0 0; return"}},
		{[]int{0, 1}, "race a|race", []string{"0 0: new 0 0; store 0 0 0; put 0 1 2 0; return", "0 0: load 0 0 0; get 1 0 1 0; return"}},
		{[]int{0, 1}, "|||||race|race", []string{"0 0: new 0 0; lock 0; store 0 0 0; unlock 0; const 1 0; put 0 1 1 0; put 0 2 1 0; return", "0 0: lock 0; load 0 0 0; unlock 0; const 1 0; const 1 0; const 1 0; get 1 0 2 0; get 1 0 1 0; return"}},
		{[]int{0, 1}, "|race a|race", []string{"0 0: make 0 1 2; store 0 0 0; elem 0 1 2 2; return", "0 0: lock 0; load 0 0 0; index 1 0 2 2; return"}},
		{[]int{0, 1}, "|race a", []string{"0 0: make 0 1 2; store 0 0 0; index 3 0 1 2; return", "0 0: lock 0; load 0 0 0; index 1 0 2 2; return"}},
	} {
		holdCheck(t, codeOf(c.threads, c.funcs...), c.want)
	}
}

// P19.2: of places with one At each name is told once, by names.
func TestOnce(t *testing.T) {
	ops := "0 0: load 1 0 0; new 0 0; store 0 0 0; put 1 0 0 0; put 1 1 0 0; elem 1 1 1 1; store 4 1 0; store 3 1 0; store 1 1 0; store 2 1 0; return"
	m := codeOf([]int{0, 0}, ops)
	for i := range m.Funcs[0].Code {
		m.Funcs[0].Code[i].At = 3
	}
	holdCheck(t, m, "|||race, race a, race b, race c")
	m.Funcs[0].Code[5].At = 1
	holdCheck(t, m, "|race||race, race a, race b, race c")
	m.Globals = []api.Sized{{Name: "z", Size: 2}, {Name: "b", Size: 1}, {Name: "a", Size: 2}}
	holdCheck(t, m, "|race||race, race a, race b, race z")
	m.Globals[0].Name, m.Globals[1].Name = "a", ""
	holdCheck(t, m, "|race||race, race a")
}

// P19.2: programs by hand, with marks where what isn't guarded is touched first.
func TestPrograms(t *testing.T) {
	const ahead = "struct n { v int ; w int ; next * n ; s [ ] int ; } lock a ; lock b ; var g int ; var h int ; var p * n ; var q * n ; var s [ ] int ; sink o ; chan c 1 ; "
	for text, want := range map[string]string{
		"thread x { @set g = 1 ; } thread y { set g = 2 ; }":                                "race g",
		"thread x { out o @g ; } thread y { set g = 2 ; }":                                  "race g",
		"thread x { @set h = ( 1 + @g ) ; } thread y { out o h ; set g = 1 ; }":             "race h|race g",
		"thread x { out o ( h + g ) ; } thread y { out o h ; }":                             "",
		"thread x { send c ( 1 + g ) ; } thread y { var v int = 0 ; recv c v ; out o v ; }": "",
		"thread x { @set s = make ( 2 ) ; } thread y { out o len ( s ) ; }":                 "race s",
		"thread x { out o @s [ 0 ] ; } thread y { set s = make ( 1 ) ; }":                   "race s",
		"thread x { lock a ; set s = make ( 2 ) ; @set s [ 1 ] = 5 ; unlock a ; } thread y { lock a ; var r [ ] int = s [ 0 : 1 ] ; unlock a ; out o r [ 0 ] ; }":                                          "race",
		"thread x { lock a ; set p = new n ; unlock a ; } thread y { lock a ; var r * n = p ; unlock a ; out o r @. v ; @set r . w = 3 ; } thread z { lock a ; set p . v = 1 ; out o p . w ; unlock a ; }": "race|race",
		"thread x { set q = nil ; @set p = new n ; } thread y { @set p . v = 1 ; } thread z { out o p . v ; }":                                                                                             "race p|race",
		"thread x { @set p = new n ; set p . next = new n ; } thread y { set q = p ; set q . v = 1 ; }":                                                                                                    "race p",
		"func f ( ) { @set g = 1 ; } thread x { call f ( ) ; } thread y { lock a ; call f ( ) ; }":                                                                                                         "race g",
		"func f ( ) { set g = 1 ; } thread x { lock a ; call f ( ) ; unlock a ; } thread y { lock a ; call f ( ) ; }":                                                                                      "",
		"func f ( ) { lock a ; } thread x { call f ( ) ; set g = 1 ; } thread y { call f ( ) ; set g = ( g + 1 ) ; }":                                                                                      "",
		"func f ( ) { lock a ; if true { unlock a ; } } thread x { call f ( ) ; @set g = 1 ; } thread y { lock a ; out o g ; }":                                                                            "race g",
		"func f ( z * n ) { set z . v = 1 ; } thread x { call f ( new n ) ; } thread y { call f ( new n ) ; }":                                                                                             "",
		"thread x { while true { lock a ; set g = ( g + 1 ) ; unlock a ; } } thread y { while true { lock a ; lock b ; unlock b ; out o g ; unlock a ; } }":                                                "",
		"thread x { while true { @set g = ( g + 1 ) ; unlock a ; } } thread y { lock a ; out o g ; unlock a ; }":                                                                                           "race g",
		"thread x { return ; set g = 1 ; } thread y { set g = 2 ; }":                                                                                                                                       "",
		"thread x { @set g = 1 ; } thread y { while false { out o g ; } }":                                                                                                                                 "race g",
		"thread x { out o 1 ; } thread y { out o 2 ; }":                                                                                                                                                    "",
	} {
		_, marks := sample.Marked(text)
		text, _ := sample.Marked(ahead + text)
		for i := range marks {
			marks[i] += len(ahead)
		}
		m := sample.Lowered(text)
		if got, list := guard.Check(m), sample.Wanted(want, marks); !slices.Equal(got, list) {
			t.Errorf("%q: %v, want %v", text, got, list)
		}
		if got, by := told(find(t, m)), told(modelOf(t, m).find()); got != by {
			t.Errorf("%q: %s, the model says\n%s", text, got, by)
		}
	}
}

// holdWrong: nothing is found of code, and nothing is told of it.
func holdWrong(t *testing.T, what any, m api.Module) {
	t.Helper()
	if list, e := guard.Find(m); e != api.ErrCode || len(list) > 0 || len(guard.Check(m)) > 0 {
		t.Fatal(what, e, len(list), guard.Check(m))
	}
}

// P19.1, P19.2: code that isn't right.
func TestWrongCode(t *testing.T) {
	for name, change := range map[string]func(m *api.Module){
		"nothing":  func(m *api.Module) { *m = api.Module{} },
		"word":     func(m *api.Module) { m.Funcs[0].Code[1].A = 5 },
		"negative": func(m *api.Module) { m.Funcs[0].Code[1].A = -1 },
		"far":      func(m *api.Module) { m.Funcs[1].Code[0].B = 1 << 40 },
		"globals":  func(m *api.Module) { m.Globals = nil },
		"size":     func(m *api.Module) { m.Globals[0].Size = 3 },
		"struct":   func(m *api.Module) { m.Funcs[0].Code[0].B = 2 },
		"register": func(m *api.Module) { m.Funcs[0].Code[2].A = 6 },
		"place":    func(m *api.Module) { m.Funcs[0].Code[2].B = 16 },
		"second":   func(m *api.Module) { m.Funcs[0].Code[2].K = 2 },
		"lock":     func(m *api.Module) { m.Funcs[1].Code[1].A = 8 },
		"next":     func(m *api.Module) { m.Funcs[0].Code[0].Next = 4 },
		"function": func(m *api.Module) { m.Threads[0] = 2 },
		"threads":  func(m *api.Module) { m.Threads = make([]int, 5) },
		"empty":    func(m *api.Module) { m.Funcs[1].Code = nil },
		"uncalled": func(m *api.Module) { m.Funcs = append(m.Funcs, api.Func{}) },
		"field":    func(m *api.Module) { m.Funcs[1].Code[0].C = 1 },
		"args":     func(m *api.Module) { m.Funcs[1].Code[2].Args = []int{0} },
	} {
		m := codeOf([]int{0, 1}, "0 0: new 0 0; store 0 0 0; put 0 1 0 0; return", "0 0: load 0 0 0; lock 0; return")
		hold(t, m, "g0w=3/0@0 s0.1w=1/0@2")
		holdCheck(t, m, "race a")
		change(&m)
		holdWrong(t, name, m)
	}
}

// often: what touches places, makes objects and takes locks.
var often = []int{api.OLoad, api.OStore, api.ONew, api.OMake, api.OLock, api.OGet, api.OPut, api.OLock, api.OIndex, api.OElem, api.OMove, api.OCall}

// P19.1, P19.2: made code against the model; and with one number changed, if it is still right.
func TestMade(t *testing.T) {
	r := rand.New(rand.NewPCG(19, 1))
	met := map[string]int{}
	for seed := range uint64(4000) {
		m := sample.Code(seed, often[:seed%13]...)
		list, x := find(t, m), modelOf(t, m)
		if got, want := told(list), told(x.find()); got != want {
			t.Fatalf("%d: %s, want\n%s", seed, got, want)
		}
		if got, want := guard.Check(m), x.check(); !slices.Equal(got, want) {
			t.Fatalf("%d: %v, want\n%v", seed, got, want)
		}
		for _, g := range list {
			kind, shared := []string{"", "global", "word", "elements"}[g.Place.Kind], g.Threads&(g.Threads-1) != 0
			met[kind]++
			if g.Locks > 0 && g.Writes && shared {
				met[kind+" guarded"]++
			}
			if g.Locks == 0 && g.Writes && shared {
				met[kind+" open"]++
			}
		}
		f := m.Funcs[r.IntN(len(m.Funcs))]
		o := &f.Code[r.IntN(len(f.Code))]
		*[]*int{&o.Kind, &o.A, &o.B, &o.C, &o.D, &o.Next}[r.IntN(6)] = []int{-1, 0, 1, 2, 3, 7, 8, 12, 1 << 40, -1 << 63}[r.IntN(10)]
		if !code.Right(m) {
			holdWrong(t, seed, m)
			met["wrong"]++
		} else if got, want := told(find(t, m)), told(modelOf(t, m).find()); got != want {
			t.Fatalf("%d: %s, want\n%s", seed, got, want)
		}
	}
	for what, least := range map[string]int{"global": 3000, "global guarded": 150, "global open": 800, "word": 2000, "word guarded": 40, "word open": 100, "elements": 1000, "elements guarded": 12, "elements open": 50, "wrong": 1500} {
		if met[what] < least {
			t.Error(what, met[what])
		}
	}
}

// P19.4, P2: what is handed in is as it was, in its spare room too; what is answered is new memory, and is the same again.
func TestMemory(t *testing.T) {
	for seed := range uint64(300) {
		m := sample.SpareCode(sample.Code(seed, often...))
		before := sample.WholeCode(m)
		list, diags := find(t, m), guard.Check(m)
		want, wrong := slices.Clone(list), slices.Clone(diags)
		for range 3 {
			if again := find(t, m); !slices.Equal(again, want) || !slices.Equal(guard.Check(m), wrong) {
				t.Fatalf("%d: another answer", seed)
			}
		}
		clear(list[:cap(list)])
		clear(diags[:cap(diags)])
		if !slices.Equal(find(t, m), want) || !slices.Equal(guard.Check(m), wrong) {
			t.Fatalf("%d: kept memory", seed)
		}
		if !reflect.DeepEqual(sample.WholeCode(m), before) {
			t.Fatalf("%d: changed", seed)
		}
	}
}
