package types_test

import (
	"math"
	"reflect"
	"slices"
	"strings"
	"testing"
	"unsafe"

	"portcullis/api"
	"portcullis/parse"
	"portcullis/sample"
	"portcullis/scope"
	"portcullis/tree"
	"portcullis/types"
)

// roots: the expressions of statements, in the order of the text.
func roots(list []api.Stmt) []api.Expr {
	var all []api.Expr
	for _, s := range list {
		all = slices.Concat(all, s.Exprs, roots(s.Body), roots(s.Else))
	}
	return all
}

// P7.1, P7.2: programs of all sorts, and their expressions, are told as the chapter's words tell their texts.
func TestModel(t *testing.T) {
	codes, clean := map[api.Errno]int{}, 0
	for seed := range uint64(3000) {
		s := sample.Program(seed, []int{0, 200, 40, 8, 3}[seed%5])
		p, at, e := parse.Program(s)
		if e != api.OK {
			t.Fatalf("%d: %q: %d %d", seed, s, at, e)
		}
		want, all := modelled(s)
		got := types.Check(p)
		if !slices.Equal(got, want) {
			t.Fatalf("%d: %q:\n%v, want\n%v", seed, s, got, want)
		}
		for _, d := range got {
			codes[d.Code]++
		}
		if len(got) == 0 {
			clean++
		}
		table, _ := scope.Names(p)
		for _, d := range p.Decls {
			if d.Kind != api.DFunc && d.Kind != api.DThread {
				continue
			}
			list := roots(d.Body)
			for i, e := range list {
				if typ, diags := types.Of(p, table.Locals[0], e); typ != all[i].typ || !slices.Equal(diags, all[i].diags) {
					t.Fatalf("%d: %q: at %d: %q %v, want %v", seed, s, e.At, typ, diags, all[i])
				}
			}
			all, table.Locals = all[len(list):], table.Locals[1:]
		}
		if len(all) > 0 {
			t.Fatal("more expressions than statements have", seed)
		}
	}
	if len(codes) != 3 || codes[api.ErrNone] < 200 || codes[api.ErrReturn] < 200 || clean < 600 || clean > 1500 {
		t.Error("the texts are all of one sort", codes, clean)
	}
}

// P7.1: where names are wrong, that is told, and nothing else.
func TestNamesFirst(t *testing.T) {
	for _, c := range []struct{ s, want string }{
		{"thread t { @lock x ; var y int = true ; set y = gl [ true ] ; return 1 ; }", "none x"},
		{"thread t { @out c @x ; send o ( 1 + true ) ; }", ""},
		{"thread t { var x int = true ; @var x bool = 1 ; }", "twice x"},
		{"func f ( ) int { return nil ; return @new i ; }", "kind i"},
	} {
		p, marks := read(t, around+c.s)
		_, names := scope.Names(p)
		if got := types.Check(p); !slices.Equal(got, names) || c.want != "" && !slices.Equal(got, sample.Wanted(c.want, marks)) {
			t.Error(c.s, got, names)
		}
	}
}

// P7.1: by places, then codes, then names, each once.
func TestOrder(t *testing.T) {
	at := func(at int, e api.Expr) api.Expr {
		e.At = at
		return e
	}
	object, number := api.Expr{Kind: api.EName, Name: "x"}, api.Expr{Kind: api.EInt}
	field := func(name string) api.Expr { return api.Expr{Kind: api.EField, Name: name, Args: []api.Expr{object}} }
	not := api.Expr{Kind: api.EUnary, Name: "!", Args: []api.Expr{number}}
	p := api.Program{Decls: []api.Decl{
		{Kind: api.DThread, Name: "t", Body: []api.Stmt{
			{Kind: api.SVar, Name: "x", Type: "*s", Exprs: []api.Expr{{Kind: api.ENil}}},
			{Kind: api.SIf, At: 9, Exprs: []api.Expr{number}, Body: []api.Stmt{{Kind: api.SIf, At: 3, Exprs: []api.Expr{number}}, {Kind: api.SReturn, At: 5, Exprs: []api.Expr{number}}}, Else: []api.Stmt{{Kind: api.SWhile, At: 5, Exprs: []api.Expr{at(5, not)}}}},
			{Kind: api.SIf, At: 2, Exprs: []api.Expr{at(5, field("b"))}}, {Kind: api.SIf, At: 2, Exprs: []api.Expr{at(5, field("a"))}}, {Kind: api.SIf, At: 2, Exprs: []api.Expr{at(5, field("b"))}},
			{Kind: api.SIf, At: math.MaxInt, Exprs: []api.Expr{number}}, {Kind: api.SIf, At: math.MinInt, Exprs: []api.Expr{number}}, {Kind: api.SIf, At: -1, Exprs: []api.Expr{number}}, {Kind: api.SIf, At: -1, Exprs: []api.Expr{number}},
		}},
		{Kind: api.DStruct, Name: "s"}, {Kind: api.DThread, Name: "u", Body: []api.Stmt{{Kind: api.SReturn, At: 4, Exprs: []api.Expr{number}}}},
	}}
	if !tree.Right(p) {
		t.Fatal("not right")
	}
	want := []api.Diag{{At: math.MinInt, Code: 50}, {At: -1, Code: 50}, {At: 3, Code: 50}, {At: 4, Code: 51}, {At: 5, Code: 41, Name: "a"}, {At: 5, Code: 41, Name: "b"}, {At: 5, Code: 50}, {At: 5, Code: 51}, {At: 9, Code: 50}, {At: math.MaxInt, Code: 50}}
	if got := types.Check(p); !slices.Equal(got, want) {
		t.Error(got)
	}
	both := api.Expr{Kind: api.EBinary, Name: "+", Args: []api.Expr{at(7, field("b")), {Kind: api.EBinary, Name: "+", Args: []api.Expr{at(7, not), {Kind: api.EBinary, Name: "+", Args: []api.Expr{at(-7, not), {Kind: api.EBinary, Name: "+", Args: []api.Expr{at(7, field("a")), at(7, field("b"))}}}}}}}}
	want = []api.Diag{{At: -7, Code: 50}, {At: 7, Code: 41, Name: "a"}, {At: 7, Code: 41, Name: "b"}, {At: 7, Code: 50}}
	if typ, got := types.Of(p, []api.Pair{{Name: "x", Type: "*s"}}, both); typ != "" || !slices.Equal(got, want) {
		t.Error(typ, got)
	}
}

// P7.2: names that mean several things: the first local, the first declaration, the first field counts.
func TestFirst(t *testing.T) {
	p, _ := read(t, "var a bool ; var a int ; struct s { f bool ; f int ; } struct s { f int ; g int ; } input b ; lock c ; func d ( f int ) int { } thread e { }")
	locals := []api.Pair{{Name: "x", Type: "*s"}, {Name: "x", Type: "int"}, {Name: "y", Type: "*none"}, {Name: "z", Type: "*d"}}
	for s, want := range map[string]string{"a": "bool", "x": "*s", "x . f": "bool", "x . g": "", "b": "int", "c": "", "d": "", "e": "", "s": "", "none": "", "y . f": "", "z . f": "", "( y == z )": "", "( y == nil )": "bool"} {
		e, _, _ := parse.Expr(s)
		if typ, diags := types.Of(p, locals, e); typ != want || (len(diags) == 0) != (want != "") {
			t.Error(s, typ, diags)
		}
	}
}

// P7.1: the greatest programs that layer 4 gives, of which some have no text of layer 3 any more, are told like all others.
func TestGreatest(t *testing.T) {
	object, slice := strings.Repeat("n", 16), strings.Repeat("m", 16)
	ahead := "lock k;struct s{" + object + " int;}var " + object + "*s;var " + slice + "[]int;var l[]int;thread t{"
	wrong := 0
	for _, c := range []struct {
		part   string
		tokens int
	}{{"return;", 2}, {"return 1;", 3}, {"lock k;", 3}, {"set O.O=O.O;", 9}, {"set S=S[S[1]:1];", 13}, {"set l=l[l[l[S]]];", 14}, {"return(1+true);", 7}, {"return(-1);", 6}, {"return new s;", 4}} {
		part := strings.NewReplacer("O", object, "S", slice).Replace(c.part)
		s := ahead + strings.Repeat(part, min((16384-len(ahead)-1)/len(part), (4096-31)/c.tokens)) + "}"
		p, at, e := parse.Program(s)
		if e != api.OK {
			t.Fatalf("%.100q: %d %d", s, at, e)
		}
		if !tree.Right(p) {
			wrong++
		}
		got := types.Check(p)
		if want, _ := modelled(s); !slices.Equal(got, want) {
			t.Errorf("%.100q: %.300v", s, got)
		}
	}
	if wrong == 0 {
		t.Error("all are right")
	}
}

const wholeText = around + "func f ( x int , y * n ) int { if ( 1 + gn . w ) { return gn ; } else { var z * n = nil ; set y . l [ 1 ] = gb ; } } func h ( ) bool { while g { call f ( 1 ) ; send c gl [ gb ] ; } return 1 ; } thread t { return 1 ; }"

// P7.3: what is handed in is as it was, in its spare room too.
func TestUnchanged(t *testing.T) {
	p, _ := read(t, wholeText)
	e, _, _ := parse.Expr("( x + gl [ gb : gn . w ] )")
	p, e = sample.Spare(p), sample.SpareExpr(e)
	locals := append(make([]api.Pair, 0, 2), api.Pair{Name: "x", Type: "*n"}, api.Pair{Name: "spare"})[:1]
	wantP, wantE, wantL := sample.Whole(p), sample.WholeExpr(e), slices.Clone(locals[:2])
	if diags := types.Check(p); len(diags) != 8 {
		t.Error(diags)
	}
	if typ, diags := types.Of(p, locals, e); typ != "" || len(diags) != 1 {
		t.Error(typ, diags)
	}
	if !reflect.DeepEqual(sample.Whole(p), wantP) || !reflect.DeepEqual(sample.WholeExpr(e), wantE) || !slices.Equal(locals[:2], wantL) {
		t.Error("changed", p, locals, e)
	}
}

// P7.3, P2, rule 5: what is answered is new memory, its texts too, and hangs on the arguments alone.
func TestNewMemory(t *testing.T) {
	p, _ := read(t, wholeText)
	first, again := types.Check(p), types.Check(p)
	want := slices.Clone(again)
	clear(first[:cap(first)])
	if !slices.Equal(again, want) || !slices.Equal(types.Check(p), want) {
		t.Error("kept", again)
	}
	text := strings.Clone("ab*s")
	within := func(part string) bool {
		from, at := uintptr(unsafe.Pointer(unsafe.StringData(text))), uintptr(unsafe.Pointer(unsafe.StringData(part)))
		return part != "" && at >= from && at < from+uintptr(len(text))
	}
	field := api.Expr{Kind: api.EField, Name: text[1:2], Args: []api.Expr{{Kind: api.EName, Name: text[:1]}}}
	object := api.Program{Decls: []api.Decl{{Kind: api.DStruct, Name: text[3:]}, {Kind: api.DVar, Name: text[:1], Type: text[2:]}, {Kind: api.DThread, Name: "t", Body: []api.Stmt{{Kind: api.SReturn, Exprs: []api.Expr{field}}}}}}
	if diags := types.Check(object); len(diags) != 1 || diags[0].Name != "b" || within(diags[0].Name) {
		t.Error(diags)
	}
	if _, diags := types.Of(object, nil, field); len(diags) != 1 || within(diags[0].Name) {
		t.Error(diags)
	}
	for _, locals := range [][]api.Pair{nil, {{Name: text[:1], Type: text[2:]}}} {
		if typ, diags := types.Of(object, locals, field.Args[0]); typ != "*s" || within(typ) || len(diags) != 0 {
			t.Error(typ, diags)
		}
	}
}

// ends: no answer is asked for, but that there is one, and none of both sorts.
func ends(t *testing.T, locals []api.Pair, e api.Expr, list ...api.Decl) {
	t.Helper()
	p := api.Program{Decls: list}
	types.Check(p)
	if typ, diags := types.Of(p, locals, e); (typ == "") == (len(diags) == 0) {
		t.Errorf("%.100q %.100v", typ, diags)
	}
}

// P1: trees that no text has, of all kinds and of none, with too few parts and too many.
func TestWrong(t *testing.T) {
	pairs := [][]api.Pair{nil, {{}}, {{Name: "a", Type: "*"}, {Name: "b", Type: "**a"}, {Name: "*", Type: "*a"}, {Name: "", Type: "*"}}}
	some := []api.Expr{{}, {Kind: api.EInt}, {Kind: api.EBool}, {Kind: api.ENil}, {Kind: api.EName}, {Kind: api.EName, Name: "a"}, {Kind: api.ENew}, {Kind: api.ENew, Name: "s"}, {Kind: api.EMake, Args: []api.Expr{{Kind: api.EInt}}}, {Kind: api.EBinary}, {Kind: api.EField}}
	for kind := -2; kind < 20; kind++ {
		for _, name := range []string{"", "a", "*", "-", "!", "==", "+", "f", "é\x00"} {
			for i := range some {
				for count := range 5 {
					args := slices.Repeat(some[i:i+1], count)
					e := api.Expr{Kind: kind, Num: math.MinInt, Name: name, Args: args}
					body := []api.Stmt{{Kind: api.SReturn, Exprs: []api.Expr{e}}, {Kind: kind, At: -1, Name: name, Type: name, Exprs: args, Body: []api.Stmt{{}}}, {Kind: kind, Name: "f", Exprs: append(args, e)}}
					ends(t, pairs[count%3], e, api.Decl{Kind: kind, Name: name, Pairs: pairs[i%3], Body: body}, api.Decl{Kind: api.DFunc, Name: "f", Pairs: pairs[count%3], Type: "int", Body: body}, api.Decl{Kind: api.DStruct, Name: "s", Pairs: pairs[i%3]}, api.Decl{Kind: api.DThread, Type: "*", Body: body})
				}
			}
		}
	}
	// An operator of another number of Args, or of the other kind, is none.
	number := api.Expr{Kind: api.EInt}
	for _, e := range []api.Expr{{Kind: api.EUnary, Name: "-", Args: []api.Expr{number, number}}, {Kind: api.EUnary, Name: "+", Args: []api.Expr{number}}, {Kind: api.EBinary, Name: "-", Args: []api.Expr{number}}, {Kind: api.EBinary, Name: "=="}, {Kind: api.EBinary, Name: "==", Args: []api.Expr{number, number, number}}, {Kind: api.EUnary, Name: "==", Args: []api.Expr{number, number}}, {Kind: api.EBinary, Name: ">", Args: []api.Expr{number, number}}} {
		if typ, diags := types.Of(api.Program{}, nil, e); typ != "" || len(diags) != 1 || diags[0] != (api.Diag{Code: api.ErrType}) {
			t.Error(e, typ, diags)
		}
	}
}

// P1: parts that stand in a tree again and again, or within themselves, and lists and names far too long.
func TestEndless(t *testing.T) {
	wide := []api.Expr{{Kind: api.EInt}}
	for range 60 {
		wide = []api.Expr{{Kind: api.EBinary, Name: "+", Args: wide}, {Kind: api.EBinary, Name: "-", Args: wide}}
	}
	long := strings.Repeat("n", 1<<20)
	for kind := range 15 {
		e := api.Expr{Kind: kind, Name: "-", Args: make([]api.Expr, 1<<12)}
		for i := range e.Args {
			e.Args[i] = e
		}
		one := api.Expr{Kind: kind, Name: "p", Args: make([]api.Expr, 1)}
		one.Args[0] = one
		s := make([]api.Stmt, 2)
		s[0] = api.Stmt{Kind: kind, Name: "f", Type: "f", Exprs: []api.Expr{one}, Body: s, Else: s}
		s[1] = s[0]
		for _, e := range []api.Expr{e, one, {Kind: kind, Name: "-", Args: wide}, {Kind: kind, Args: slices.Repeat([]api.Expr{{Kind: kind}}, 1<<17)}, {Kind: kind, Args: slices.Repeat([]api.Expr{{Kind: api.ENew, Name: long}}, 1<<10)}} {
			ends(t, []api.Pair{{Name: "f", Type: "int"}}, e, api.Decl{Kind: api.DFunc, Name: "f", Body: s}, api.Decl{Kind: api.DThread, Name: "t", Body: []api.Stmt{{Kind: api.SReturn, Exprs: []api.Expr{e}}}})
		}
	}
	e := api.Expr{Kind: api.EUnary, Name: "-", Args: wide[:1]}
	if typ, diags := types.Of(api.Program{}, nil, e); typ != "" || len(diags) != 1 || diags[0] != (api.Diag{Code: api.ErrTree}) {
		t.Error(typ, diags)
	}
}
