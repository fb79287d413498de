package sample_test

import (
	"reflect"
	"slices"
	"strings"
	"testing"

	"portcullis/api"
	"portcullis/code"
	"portcullis/parse"
	"portcullis/sample"
	"portcullis/scope"
	"portcullis/types"
)

// All texts are read, their names are right, and without slips all types fit.
func TestProgram(t *testing.T) {
	slipped := 0
	var texts strings.Builder
	for seed := range uint64(1000) {
		for _, slips := range []int{0, 40} {
			s := sample.Program(seed, slips)
			p, at, e := parse.Program(s)
			if e != 0 {
				t.Fatalf("%d %d: %q: %d %d", seed, slips, s, at, e)
			}
			if _, diags := scope.Names(p); len(diags) > 0 {
				t.Fatalf("%d %d: %q: %v", seed, slips, s, diags)
			}
			if diags := types.Check(p); len(diags) > 0 && slips == 0 {
				t.Fatalf("%d: %q: %v", seed, s, diags)
			} else if len(diags) > 0 {
				slipped++
			}
			if s != sample.Program(seed, slips) {
				t.Fatal("another text", seed, slips)
			}
			texts.WriteString(s)
		}
	}
	if slipped < 500 || slipped > 950 {
		t.Error("slips", slipped)
	}
	all := texts.String()
	for _, part := range strings.Split("lock lo|unlock lo|chan ch|struct st|input in|sink si|func fu|thread th|int|bool|[ ] int|* st|var v|set v|set in|if (|} else {|while (|send ch|recv ch|out si|call fu|call v|return ;|return (|nil|true|false|new st|make (|len (|release h|. f|( - |( !|+|*|/|%|&||| < | <= | == | != |, | : ", "|") {
		if !strings.Contains(all, part) {
			t.Error("nowhere", part)
		}
	}
}

// What stands behind a list's end is seen in the whole program, wherever the list is.
func TestSpare(t *testing.T) {
	p, _, _ := parse.Program("func f ( x int ) { if ( x < 1 ) { return ; } else { return ; } }")
	q := sample.Spare(p)
	if reflect.DeepEqual(sample.Whole(q), q) || !slices.Equal(types.Check(q), types.Check(p)) {
		t.Error(q)
	}
	s := q.Decls[0].Body[0]
	for i, write := range []func(){
		func() { _ = append(q.Decls, api.Decl{}) }, func() { _ = append(q.Decls[0].Pairs, api.Pair{}) }, func() { _ = append(q.Decls[0].Body, api.Stmt{}) },
		func() { _ = append(s.Body, api.Stmt{}) }, func() { _ = append(s.Else, api.Stmt{}) }, func() { _ = append(s.Exprs, api.Expr{}) }, func() { _ = append(s.Exprs[0].Args[1].Args, api.Expr{}) },
	} {
		before := sample.Whole(q)
		if write(); reflect.DeepEqual(sample.Whole(q), before) {
			t.Error("not seen", i)
		}
	}
	e := sample.SpareExpr(s.Exprs[0])
	before := sample.WholeExpr(e)
	if _ = append(e.Args[0].Args, api.Expr{}); reflect.DeepEqual(sample.WholeExpr(e), before) {
		t.Error("not seen")
	}
}

// A text's tokens are read one after the other, its types and names with types whole.
func TestReader(t *testing.T) {
	r := sample.Read("x ( a int , b [ ] int , ) { c * n ; } bool ;")
	if at, name, is, not := r.At(), r.Next(), r.Is("("), r.Is("("); at != 0 || name != "x" || !is || not || r.At() != 4 {
		t.Error(at, name, is, not, r)
	}
	if got := r.Pairs(")"); !slices.Equal(got, []api.Pair{{Name: "a", Type: "int"}, {Name: "b", Type: "[]int"}}) || !r.Is("{") {
		t.Error(got, r)
	}
	if got := r.Pairs("}"); !slices.Equal(got, []api.Pair{{Name: "c", Type: "*n"}}) {
		t.Error(got, r)
	}
	if typ, end := r.Type(), r.Next(); typ != "bool" || end != ";" || r.K != len(r.Tokens) || r.Text() != "" || r.Is(";") {
		t.Error(typ, end, r)
	}
}

// The marks' places are those of the text without them.
func TestMarked(t *testing.T) {
	text, marks := sample.Marked("@ab@c@@")
	if text != "abc" || !slices.Equal(marks, []int{0, 2, 3, 3}) {
		t.Error(text, marks)
	}
	want := []api.Diag{{At: 0, Code: api.ErrNone, Name: "x"}, {At: 0, Code: api.ErrKind, Name: "y"}, {At: 3, Code: api.ErrType}, {At: 3, Code: api.ErrLevel, Name: "z"}, {At: 3, Code: api.ErrLabel, Name: "z"}, {At: 3, Code: api.ErrOrder}, {At: 3, Code: api.ErrRace, Name: "w"}, {At: 3, Code: api.ErrHeld, Name: "u"}, {At: 3, Code: api.ErrCycle, Name: "v"}}
	if got := sample.Wanted("none x, kind y||type|level z, label z, order, race w, held u, cycle v", marks); !slices.Equal(got, want) {
		t.Error(got)
	}
}

// Of two threads' ticks each order is told once.
func TestOrders(t *testing.T) {
	var got [][]int
	sample.Orders(2, 2, func(picks []int) { got = append(got, slices.Clone(picks)) })
	want := [][]int{{0, 0, 1, 1}, {0, 1, 0, 1}, {0, 1, 1, 0}, {1, 0, 0, 1}, {1, 0, 1, 0}, {1, 1, 0, 0}}
	if !reflect.DeepEqual(got, want) {
		t.Error(got)
	}
}

// A copied state is the same, and shares no memory with the first one.
func TestCopied(t *testing.T) {
	s := api.State{
		Tick: 1, Threads: []api.Thread{{Frames: []api.Frame{{Func: 1, Regs: []int{5}}}, Fault: 2}}, Globals: []api.Word{{V: 1}}, Arenas: [][]api.Word{{{V: 2}}},
		Objects: [][]api.Object{{{At: 3}}}, Holders: []int{4}, Queues: [][]int{{5}}, Events: []api.Event{{Tick: 6}}, Stores: 7, Torn: true, Wild: true,
	}
	q := sample.Copied(s)
	if !reflect.DeepEqual(q, s) {
		t.Error(q)
	}
	for i, write := range []func(){
		func() { q.Threads[0].Frames[0].Regs[0]++ }, func() { q.Threads[0].Frames[0].Pc++ }, func() { q.Threads[0].Fault++ }, func() { q.Globals[0].V++ }, func() { q.Arenas[0][0].V++ }, func() { q.Arenas[0] = nil },
		func() { q.Objects[0][0].At++ }, func() { q.Objects[0] = nil }, func() { q.Holders[0]++ }, func() { q.Queues[0][0]++ }, func() { q.Queues[0] = nil }, func() { q.Events[0].Tick++ },
	} {
		q = sample.Copied(s)
		if write(); reflect.DeepEqual(q, s) {
			t.Error("shared", i)
		}
	}
}

// What stands behind a list's end is seen in the whole code, wherever the list is.
func TestSpareCode(t *testing.T) {
	sized := []api.Sized{{Size: 1}}
	m := api.Module{Globals: sized, Structs: sized, Chans: sized, Locks: []string{"l"}, Inputs: []string{"i"}, Sinks: []string{"o"}, Hatches: []string{"h"}, Threads: []int{0}}
	m.Funcs = []api.Func{{Regs: 1, Result: 1, Code: sample.Ops("return r0")}}
	q := sample.SpareCode(m)
	if reflect.DeepEqual(sample.WholeCode(q), q) || !reflect.DeepEqual(q, m) {
		t.Error(q)
	}
	for i, write := range []func(){
		func() { _ = append(q.Globals, api.Sized{}) }, func() { _ = append(q.Structs, api.Sized{}) }, func() { _ = append(q.Chans, api.Sized{}) },
		func() { _ = append(q.Locks, "") }, func() { _ = append(q.Inputs, "") }, func() { _ = append(q.Sinks, "") }, func() { _ = append(q.Hatches, "") },
		func() { _ = append(q.Threads, 0) }, func() { _ = append(q.Funcs, api.Func{}) }, func() { _ = append(q.Funcs[0].Code, api.Op{}) }, func() { _ = append(q.Funcs[0].Code[0].Args, 0) },
	} {
		before := sample.WholeCode(q)
		if write(); reflect.DeepEqual(sample.WholeCode(q), before) {
			t.Error("not seen", i)
		}
	}
}

// The kinds of operations have the names, and the fields, that code's text tells.
func TestKinds(t *testing.T) {
	kinds := sample.Kinds()
	for kind := api.OConst; kind <= api.OReturn; kind++ {
		o := api.Op{Kind: kind}
		for _, letter := range kinds[kind][1] {
			*sample.Field(&o, letter) = 1
		}
		m := api.Module{Globals: []api.Sized{{Size: 2}}, Structs: []api.Sized{{}, {}}, Chans: []api.Sized{{Size: 1}, {Size: 1}}, Locks: make([]string, 2), Inputs: make([]string, 2), Sinks: make([]string, 2), Hatches: make([]string, 2)}
		m.Funcs = []api.Func{{Regs: 8, Code: []api.Op{o, {Kind: api.OReturn}}}, {Regs: 8, Result: 1, Code: sample.Ops("return r0")}}
		if kind == api.OMake || kind == api.OCut {
			m.Funcs[0].Code[0].B = 2
		}
		text, err := code.Show(m)
		if err != api.OK || strings.Fields(text)[6] != kinds[kind][0] || len(kinds[kind][1]) != len(kinds[kind][2]) {
			t.Error(kind, text, err)
		}
	}
	if len(kinds) != api.OReturn+1 {
		t.Error(len(kinds))
	}
}

// A text's operations are read with all that they have.
func TestOps(t *testing.T) {
	got := sample.Ops("const 1 -5; cut 1 2 3 4 5 6 > 0; if 7 > 3 | 4; binary 1 2 3 11; call 2 -1 0 r3 r0; call 2 4 1 > 1; return; return r1 r2")
	want := []api.Op{
		{Kind: api.OConst, A: 1, K: -5, Next: 1}, {Kind: api.OCut, A: 1, B: 2, C: 3, D: 4, E: 5, F: 6, At: 1}, {Kind: api.OIf, A: 7, Next: 3, Else: 4, At: 2}, {Kind: api.OBinary, A: 1, B: 2, C: 3, K: 11, Next: 4, At: 3},
		{Kind: api.OCall, A: 2, B: -1, Args: []int{3, 0}, Next: 5, At: 4}, {Kind: api.OCall, A: 2, B: 4, K: 1, Next: 1, At: 5}, {Kind: api.OReturn, At: 6}, {Kind: api.OReturn, Args: []int{1, 2}, At: 7},
	}
	if !reflect.DeepEqual(got, want) {
		t.Error(got)
	}
}

// Functions are read with their counts, of which there may be blanks around.
func TestFuncs(t *testing.T) {
	got := sample.Funcs(5, "0 0: return", " 2 1 : move 2 0; return r1")
	want := []api.Func{{Regs: 5, Code: sample.Ops("return")}, {Params: 2, Regs: 5, Result: 1, Code: sample.Ops("move 2 0; return r1")}}
	if !reflect.DeepEqual(got, want) {
		t.Error(got)
	}
}

// A text's code has three hatches; its machine has as many inputs as it asks for.
func TestBegun(t *testing.T) {
	text := "input i ; sink o ; thread t { out o release h2 ; out o i ; }"
	m := sample.Lowered(text)
	x := sample.Begun(m)
	x.Run(0, 0, 0, 0)
	want := []api.Event{{Tick: 1, Value: 0}, {Tick: 3, Value: 3}}
	if got := x.State().Events; !slices.Equal(got, want) || len(m.Hatches) != 3 {
		t.Error(got, m.Hatches)
	}
	for _, wrong := range []string{"input", text + "lock i ;", "sink o ; thread t { out o release h3 ; }", "thread t { set i = 1 ; }"} {
		func() {
			defer func() { recover() }()
			sample.Lowered(wrong)
			t.Error("no panic", wrong)
		}()
	}
}

// An object's words belong to who made it, and where; the words around it to nobody.
func TestMaker(t *testing.T) {
	x := sample.Begun(sample.Lowered("struct n { v int ; w int ; } thread t { } thread u { var x * n = new n ; var s [ ] int = make ( 3 ) ; }"))
	x.Run(1, 1, 1, 1)
	for addr, want := range map[int]api.Site{1: {Thread: -1}, 64: {Thread: -1}, 65: {Thread: 1, Func: 1}, 66: {Thread: 1, Func: 1}, 67: {Thread: 1, Func: 1, Op: 3}, 69: {Thread: 1, Func: 1, Op: 3}, 70: {Thread: -1}, 0: {Thread: -1}, -3: {Thread: -1}} {
		if got := sample.Maker(x.State(), addr); got != want {
			t.Error(addr, got)
		}
	}
}

// All code can be run, and is the same for the same seed; kinds that are told stand there more often.
func TestCode(t *testing.T) {
	kinds, threads := map[int]int{}, map[int]int{}
	for seed := range uint64(1000) {
		m, often := sample.Code(seed), sample.Code(seed, api.OLock, api.OUnlock)
		if !code.Right(m) || !code.Right(often) || !reflect.DeepEqual(m, sample.Code(seed)) {
			t.Fatal(seed)
		}
		threads[len(m.Threads)]++
		for _, f := range m.Funcs {
			for _, o := range f.Code {
				kinds[o.Kind]++
			}
		}
		for _, f := range often.Funcs {
			for _, o := range f.Code {
				kinds[-o.Kind]++
			}
		}
	}
	for kind := api.OConst; kind <= api.OReturn; kind++ {
		if kinds[kind] < 500 || kinds[-kind] == 0 {
			t.Error(kind, kinds[kind], kinds[-kind])
		}
	}
	if locks := kinds[-api.OLock] + kinds[-api.OUnlock]; locks < 10000 || kinds[-api.OConst]*10 > locks {
		t.Error(locks)
	}
	for n := range 5 {
		if threads[n] < 100 {
			t.Error(n, threads[n])
		}
	}
}
