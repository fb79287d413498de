package sample_test

import (
	"reflect"
	"slices"
	"strings"
	"testing"

	"portcullis/api"
	"portcullis/parse"
	"portcullis/sample"
	"portcullis/scope"
	"portcullis/types"
)

// All texts are read, their names are right, and without slips all types fit.
func TestProgram(t *testing.T) {
	slipped := 0
	var texts strings.Builder
	for seed := range uint64(1000) {
		for _, slips := range []int{0, 40} {
			s := sample.Program(seed, slips)
			p, at, e := parse.Program(s)
			if e != 0 {
				t.Fatalf("%d %d: %q: %d %d", seed, slips, s, at, e)
			}
			if _, diags := scope.Names(p); len(diags) > 0 {
				t.Fatalf("%d %d: %q: %v", seed, slips, s, diags)
			}
			if diags := types.Check(p); len(diags) > 0 && slips == 0 {
				t.Fatalf("%d: %q: %v", seed, s, diags)
			} else if len(diags) > 0 {
				slipped++
			}
			if s != sample.Program(seed, slips) {
				t.Fatal("another text", seed, slips)
			}
			texts.WriteString(s)
		}
	}
	if slipped < 500 || slipped > 950 {
		t.Error("slips", slipped)
	}
	all := texts.String()
	for _, part := range strings.Split("lock lo|unlock lo|chan ch|struct st|input in|sink si|func fu|thread th|int|bool|[ ] int|* st|var v|set v|set in|if (|} else {|while (|send ch|recv ch|out si|call fu|call v|return ;|return (|nil|true|false|new st|make (|len (|release h|. f|( - |( !|+|*|/|%|&||| < | <= | == | != |, | : ", "|") {
		if !strings.Contains(all, part) {
			t.Error("nowhere", part)
		}
	}
}

// What stands behind a list's end is seen in the whole program, wherever the list is.
func TestSpare(t *testing.T) {
	p, _, _ := parse.Program("func f ( x int ) { if ( x < 1 ) { return ; } else { return ; } }")
	q := sample.Spare(p)
	if reflect.DeepEqual(sample.Whole(q), q) || !slices.Equal(types.Check(q), types.Check(p)) {
		t.Error(q)
	}
	s := q.Decls[0].Body[0]
	for i, write := range []func(){
		func() { _ = append(q.Decls, api.Decl{}) }, func() { _ = append(q.Decls[0].Pairs, api.Pair{}) }, func() { _ = append(q.Decls[0].Body, api.Stmt{}) },
		func() { _ = append(s.Body, api.Stmt{}) }, func() { _ = append(s.Else, api.Stmt{}) }, func() { _ = append(s.Exprs, api.Expr{}) }, func() { _ = append(s.Exprs[0].Args[1].Args, api.Expr{}) },
	} {
		before := sample.Whole(q)
		if write(); reflect.DeepEqual(sample.Whole(q), before) {
			t.Error("not seen", i)
		}
	}
	e := sample.SpareExpr(s.Exprs[0])
	before := sample.WholeExpr(e)
	if _ = append(e.Args[0].Args, api.Expr{}); reflect.DeepEqual(sample.WholeExpr(e), before) {
		t.Error("not seen")
	}
}

// A text's tokens are read one after the other, its types and names with types whole.
func TestReader(t *testing.T) {
	r := sample.Read("x ( a int , b [ ] int , ) { c * n ; } bool ;")
	if at, name, is, not := r.At(), r.Next(), r.Is("("), r.Is("("); at != 0 || name != "x" || !is || not || r.At() != 4 {
		t.Error(at, name, is, not, r)
	}
	if got := r.Pairs(")"); !slices.Equal(got, []api.Pair{{Name: "a", Type: "int"}, {Name: "b", Type: "[]int"}}) || !r.Is("{") {
		t.Error(got, r)
	}
	if got := r.Pairs("}"); !slices.Equal(got, []api.Pair{{Name: "c", Type: "*n"}}) {
		t.Error(got, r)
	}
	if typ, end := r.Type(), r.Next(); typ != "bool" || end != ";" || r.K != len(r.Tokens) || r.Text() != "" || r.Is(";") {
		t.Error(typ, end, r)
	}
}

// The marks' places are those of the text without them.
func TestMarked(t *testing.T) {
	text, marks := sample.Marked("@ab@c@@")
	if text != "abc" || !slices.Equal(marks, []int{0, 2, 3, 3}) {
		t.Error(text, marks)
	}
	want := []api.Diag{{At: 0, Code: api.ErrNone, Name: "x"}, {At: 0, Code: api.ErrKind, Name: "y"}, {At: 3, Code: api.ErrType}, {At: 3, Code: api.ErrLevel, Name: "z"}, {At: 3, Code: api.ErrLabel, Name: "z"}, {At: 3, Code: api.ErrOrder}}
	if got := sample.Wanted("none x, kind y||type|level z, label z, order", marks); !slices.Equal(got, want) {
		t.Error(got)
	}
}

// Of two threads' ticks each order is told once.
func TestOrders(t *testing.T) {
	var got [][]int
	sample.Orders(2, 2, func(picks []int) { got = append(got, slices.Clone(picks)) })
	want := [][]int{{0, 0, 1, 1}, {0, 1, 0, 1}, {0, 1, 1, 0}, {1, 0, 0, 1}, {1, 0, 1, 0}, {1, 1, 0, 0}}
	if !reflect.DeepEqual(got, want) {
		t.Error(got)
	}
}

// A copied state is the same, and shares no memory with the first one.
func TestCopied(t *testing.T) {
	s := api.State{
		Tick: 1, Threads: []api.Thread{{Frames: []api.Frame{{Func: 1, Regs: []int{5}}}, Fault: 2}}, Globals: []api.Word{{V: 1}}, Arenas: [][]api.Word{{{V: 2}}},
		Objects: [][]api.Object{{{At: 3}}}, Holders: []int{4}, Queues: [][]int{{5}}, Events: []api.Event{{Tick: 6}}, Stores: 7, Torn: true, Wild: true,
	}
	q := sample.Copied(s)
	if !reflect.DeepEqual(q, s) {
		t.Error(q)
	}
	for i, write := range []func(){
		func() { q.Threads[0].Frames[0].Regs[0]++ }, func() { q.Threads[0].Frames[0].Pc++ }, func() { q.Threads[0].Fault++ }, func() { q.Globals[0].V++ }, func() { q.Arenas[0][0].V++ }, func() { q.Arenas[0] = nil },
		func() { q.Objects[0][0].At++ }, func() { q.Objects[0] = nil }, func() { q.Holders[0]++ }, func() { q.Queues[0][0]++ }, func() { q.Queues[0] = nil }, func() { q.Events[0].Tick++ },
	} {
		q = sample.Copied(s)
		if write(); reflect.DeepEqual(q, s) {
			t.Error("shared", i)
		}
	}
}
