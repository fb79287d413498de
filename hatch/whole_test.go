package hatch_test

import (
	"math"
	"reflect"
	"slices"
	"strings"
	"testing"
	"unsafe"

	"portcullis/api"
	"portcullis/hatch"
	"portcullis/parse"
	"portcullis/sample"
)

// room: the same list, with something in its memory behind its end.
func room[T any](list []T, spare T) []T { return append(slices.Clone(list), spare)[:len(list)] }

// spare: the same policy, all of whose lists have something in their memory behind their ends.
func spare(q api.Policy) api.Policy {
	q = api.Policy{Levels: room(q.Levels, "spare"), Edges: room(q.Edges, [2]string{"spare", "low"}), Labels: room(q.Labels, api.Label{Kind: "input", Name: "i1", Level: "low"}), Hatches: room(q.Hatches, api.Hatch{Name: "spare"})}
	for i := range q.Hatches {
		q.Hatches[i].Expr = sample.SpareExpr(q.Hatches[i].Expr)
	}
	return q
}

// whole: a copy of a policy whose lists go to the end of their memory, to be held against another.
func whole(q api.Policy) api.Policy {
	q = api.Policy{Levels: slices.Clone(q.Levels[:cap(q.Levels)]), Edges: slices.Clone(q.Edges[:cap(q.Edges)]), Labels: slices.Clone(q.Labels[:cap(q.Labels)]), Hatches: slices.Clone(q.Hatches[:cap(q.Hatches)])}
	for i := range q.Hatches {
		q.Hatches[i].Expr = sample.WholeExpr(q.Hatches[i].Expr)
	}
	return q
}

const wrongLines = fits + ", level low, edge x high, lock l1 high, lock l1 low, chan z low, var t low, hatch h high ( q + ( i1 < g1 ) ), hatch h y 1, hatch k low ( - i2 )"

// P8.3: what is handed in is as it was, in its spare room too.
func TestUnchanged(t *testing.T) {
	for _, lines := range []string{wrongLines, fits + ", hatch h low ( i1 % 10 )", "level a, level b"} {
		p, q, _ := read(t, around+"thread u { var x int = release h ; set x = release m ; }", lines)
		p, q = sample.Spare(p), spare(q)
		wantP, wantQ := sample.Whole(p), whole(q)
		levels, diags := hatch.Fit(p, q)
		first, second := hatch.Fit(p, q)
		if !reflect.DeepEqual(sample.Whole(p), wantP) || !reflect.DeepEqual(whole(q), wantQ) {
			t.Error("changed", p, q)
		}
		if len(diags) == 0 || !slices.Equal(diags, second) || shown(levels) != shown(first) {
			t.Error(levels, diags, first, second)
		}
	}
	e, _, _ := parse.Expr("( ( x % ( - y ) ) + ( 1 < x ) )")
	e = sample.SpareExpr(e)
	names, inputs := room([]string{"x", "y"}, "spare"), room([]int{17, 5}, 77)
	want := sample.WholeExpr(e)
	if got := hatch.Value(e, names, inputs); got != 2 {
		t.Error(got)
	}
	if !reflect.DeepEqual(sample.WholeExpr(e), want) || !slices.Equal(names[:3], []string{"x", "y", "spare"}) || !slices.Equal(inputs[:3], []int{17, 5, 77}) {
		t.Error("changed", e, names, inputs)
	}
}

// lists: all lists of numbers of an answer.
func lists(l api.Levels) []*[]int {
	return []*[]int{&l.Inputs, &l.Sinks, &l.Locks, &l.Chans, &l.Globals, &l.Hatches}
}

// P8.3, P2, rule 5: what is answered is new memory, its texts too, no two lists of it share any, and it hangs on the arguments alone.
func TestNewMemory(t *testing.T) {
	p, q, _ := read(t, around, wrongLines)
	first, diags := hatch.Fit(p, q)
	again, second := hatch.Fit(p, q)
	want, wantDiags := shown(again), slices.Clone(second)
	clear(diags[:cap(diags)])
	clear(first.Edges[:cap(first.Edges)])
	for i, list := range lists(first) {
		if len(*list) == 0 {
			t.Error("empty", i)
		}
		rest := *list
		rest = rest[:cap(rest)]
		for k := range rest {
			rest[k] = 100 + i
		}
	}
	for i, list := range lists(first) {
		for _, n := range *list {
			if n != 100+i {
				t.Error("shared", i, first)
			}
		}
	}
	third, thirdDiags := hatch.Fit(p, q)
	if shown(again) != want || shown(third) != want || !slices.Equal(second, wantDiags) || !slices.Equal(thirdDiags, wantDiags) {
		t.Error("kept", again, third)
	}
	// Names are new, each that is told: of each kind of error.
	text := strings.Clone("lmnohizr")
	within := func(part string) bool {
		from, at := uintptr(unsafe.Pointer(unsafe.StringData(text))), uintptr(unsafe.Pointer(unsafe.StringData(part)))
		return part != "" && at >= from && at < from+uintptr(len(text))
	}
	release := api.Expr{Kind: api.ERelease, At: 9, Name: text[7:]}
	p = api.Program{Decls: []api.Decl{{Kind: api.DInput, Name: text[5:6]}, {Kind: api.DThread, Name: "t", Body: []api.Stmt{{Kind: api.SVar, Name: "v", Type: "int", Exprs: []api.Expr{release}}}}}}
	q = api.Policy{Levels: []string{text[:1], text[:1]}, Edges: [][2]string{{text[1:2], "l"}}, Labels: []api.Label{{Kind: "sink", Name: text[5:6], Level: text[2:3]}}, Hatches: []api.Hatch{{Name: text[4:5], Level: text[3:4], Expr: expr(api.EUnary, "!", expr(api.EName, text[6:7]))}}}
	_, diags = hatch.Fit(p, q)
	wantDiags = []api.Diag{{Code: 30, Name: "m"}, {Code: 30, Name: "n"}, {Code: 30, Name: "o"}, {Code: 40, Name: "l"}, {Code: 41, Name: "z"}, {Code: 42, Name: "i"}, {Code: 50, Name: "h"}, {Code: 60, Name: "i"}, {At: 9, Code: 41, Name: "r"}}
	if !slices.Equal(diags, wantDiags) || slices.ContainsFunc(diags, func(d api.Diag) bool { return within(d.Name) }) {
		t.Error(diags)
	}
}

// P1: programs and policies that no text has, of all kinds and of none.
func TestWrong(t *testing.T) {
	words := []string{"", "a", "input", "sink", "lock", "chan", "var", "-", "é\x00", strings.Repeat("n", 1<<8)}
	for kind := -2; kind < 20; kind++ {
		for i, word := range words {
			for count := range 5 {
				args := slices.Repeat([]api.Expr{{Kind: (kind + count) % 14, Name: word, Num: math.MinInt}}, count)
				e := api.Expr{Kind: kind, Name: words[count], At: -1, Args: args}
				body := []api.Stmt{{Kind: kind, Name: word, Type: word, Exprs: append(args, e), Body: []api.Stmt{{}}, Else: []api.Stmt{{Exprs: []api.Expr{e}}}}}
				p := api.Program{Decls: []api.Decl{{Kind: kind, Name: word, Body: body, Pairs: []api.Pair{{}}}, {Kind: api.DThread, Name: word, Body: body}, {Kind: count, Name: word}, {Kind: api.DInput}}}
				q := api.Policy{Levels: words[:i], Edges: [][2]string{{}, {word, "a"}, {"a", word}}, Labels: []api.Label{{}, {Kind: word, Name: word, Level: word}, {Kind: words[count], Name: word}}, Hatches: []api.Hatch{{}, {Name: word, Level: word, Expr: e}}}
				if levels, diags := hatch.Fit(p, q); levels.Size != i || len(levels.Hatches) != 2 || len(diags) == 0 {
					t.Fatalf("%d %.20q %d %v %.300v", kind, word, count, levels, diags)
				}
				hatch.Fit(p, api.Policy{})
				hatch.Fit(api.Program{}, q)
			}
		}
	}
	if levels, diags := hatch.Fit(api.Program{}, api.Policy{}); shown(levels) != shown(api.Levels{}) || !slices.Equal(diags, []api.Diag{{Code: api.ErrOrder}}) {
		t.Error(levels, diags)
	}
	// More levels than a lattice has.
	nine := api.Policy{Levels: strings.Fields("a b c d e f g h i"), Edges: [][2]string{{"a", "b"}, {"b", "c"}, {"c", "d"}, {"d", "e"}, {"e", "f"}, {"f", "g"}, {"g", "h"}, {"h", "i"}}}
	if levels, diags := hatch.Fit(api.Program{}, nine); levels.Size != 9 || len(levels.Edges) != 8 || !slices.Equal(diags, []api.Diag{{Code: api.ErrOrder}}) {
		t.Error(levels, diags)
	}
}

// P1: parts that stand in a tree again and again, or within themselves, and lists far too long.
func TestEndless(t *testing.T) {
	wide := []api.Expr{{Kind: api.EInt}}
	for range 60 {
		wide = []api.Expr{{Kind: api.EBinary, Name: "+", Args: wide}, {Kind: api.EBinary, Name: "-", Args: wide}}
	}
	long := strings.Repeat("n", 1<<20)
	for kind := range 15 {
		one := api.Expr{Kind: kind, Name: "-", Args: make([]api.Expr, 1)}
		one.Args[0] = one
		s := make([]api.Stmt, 2)
		s[0] = api.Stmt{Kind: kind, Name: "t", Exprs: []api.Expr{one}, Body: s, Else: s}
		s[1] = s[0]
		for _, e := range []api.Expr{one, {Kind: kind, Name: "-", Args: wide}, {Kind: kind, Args: slices.Repeat([]api.Expr{{Kind: kind}}, 1<<17)}, {Kind: kind, Args: slices.Repeat([]api.Expr{{Kind: api.EName, Name: long}}, 1<<10)}} {
			p := api.Program{Decls: []api.Decl{{Kind: api.DThread, Name: "t", Body: []api.Stmt{{Kind: api.SReturn, Exprs: []api.Expr{e}}}}}}
			q := api.Policy{Levels: []string{"a"}, Hatches: []api.Hatch{{Name: "h", Level: "a", Expr: e}}}
			for _, c := range []struct {
				p api.Program
				q api.Policy
			}{{p, api.Policy{}}, {api.Program{}, q}, {p, q}, {api.Program{Decls: []api.Decl{{Kind: api.DThread, Body: s}}}, q}} {
				if levels, diags := hatch.Fit(c.p, c.q); shown(levels) != shown(api.Levels{}) || !slices.Equal(diags, []api.Diag{{Code: api.ErrTree}}) {
					t.Fatalf("%d: %v %.100v", kind, levels, diags)
				}
			}
		}
	}
	many := api.Policy{Levels: slices.Repeat([]string{"a", "b"}, 1<<16), Edges: slices.Repeat([][2]string{{"a", "c"}, {"a", "b"}}, 1<<16), Labels: slices.Repeat([]api.Label{{Kind: "lock", Name: "l", Level: "b"}}, 1<<17), Hatches: slices.Repeat([]api.Hatch{{Name: "h", Level: "b"}}, 1<<10)}
	levels, diags := hatch.Fit(api.Program{Decls: []api.Decl{{Kind: api.DLock, Name: "l"}}}, many)
	if levels.Size != 1<<17 || len(levels.Edges) != 1<<16 || !slices.Equal(levels.Locks, []int{1}) || len(diags) != 6 {
		t.Error(levels.Size, diags)
	}
}

// P8.1: the greatest policies that layer 5 gives are held like all others.
func TestGreatest(t *testing.T) {
	name := strings.Repeat("n", 16)
	sum, long, deep := "i", name, name
	for range 9 {
		sum = "(" + sum + "+" + sum + ")"
	}
	for range 22 {
		deep = "(-" + deep + ")"
	}
	for range 8 {
		long += "." + name
	}
	for range 4 {
		long = "(" + long + "<" + long + ")"
	}
	program := "input i ; input " + name + " ; lock l ; thread t { }"
	policy := "level a, input i a, input " + name + " a, hatch h a " + sum + ", hatch k a " + sum + ", hatch m a " + deep
	told(t, program, policy, "")
	told(t, program, policy+", hatch o a "+long, "type o")
	told(t, program, policy+", hatch o a "+strings.Replace(sum, "i)", "j)", 1)+strings.Repeat(", lock l a", 62), "twice l, none j")
	told(t, program, policy+strings.Repeat(", edge a a", 64)+", level b, level c, level d, level e, level f, level g, level h", "order")
}
