package lower_test

import (
	"fmt"
	"math"
	"math/rand/v2"
	"reflect"
	"slices"
	"strings"
	"testing"
	"unsafe"

	"portcullis/api"
	"portcullis/code"
	"portcullis/lower"
	"portcullis/sample"
	"portcullis/types"
)

// told holds an error against the one that must be there, and what stands beside it.
func told(t *testing.T, p api.Program, hatches []string, want api.Errno) {
	t.Helper()
	m, e := lower.Lower(p, hatches)
	if e != want || e == api.OK && !code.Right(m) || e != api.OK && !reflect.DeepEqual(m, api.Module{}) {
		t.Errorf("%d, want %d: %.300s", e, want, fmt.Sprint(p))
	}
}

// P11.1: which error is told, of several that apply.
func TestErrors(t *testing.T) {
	ten := strings.Fields("a b c d e f g h i j")
	for _, c := range []struct {
		s       string
		hatches int
		want    api.Errno
	}{
		{"thread t { var x int = true ; }", 0, api.ErrType},
		{"thread t { out o 1 ; }", 0, api.ErrType},
		{"sink o ; thread t { out o release z ; out o true ; }", 9, api.ErrType},
		{"func f ( ) { return 1 ; }", 10, api.ErrType},
		{"sink o ; thread t { out o release z ; }", 10, api.ErrNone},
		{"sink o ; func f ( ) { out o release j ; }", 9, api.ErrNone},
		{"sink o ; func f ( ) { out o release j ; }", 0, api.ErrNone},
		{"sink o ; func f ( ) { out o release h ; }", 7, api.ErrNone},
		{"sink o ; func f ( ) { out o release h ; }", 8, api.OK},
		{"sink o ; func f ( ) { out o release i ; }", 9, api.ErrMany},
		{"thread t { }", 9, api.ErrMany},
		{"thread t { }", 10, api.ErrMany},
		{"", 9, api.ErrMany},
		{"", 8, api.ErrSize},
		{"", 0, api.ErrSize},
		{"lock l ; struct s { } var g int ; chan c 1 ; input i ; sink o ;", 3, api.ErrSize},
		{"func f ( ) { }", 8, api.OK},
		{"thread t { }", 0, api.OK},
	} {
		p, _ := read(t, c.s)
		told(t, p, ten[:c.hatches], c.want)
	}
	p, _ := read(t, "thread t { }")
	told(t, p, make([]string, 1<<16), api.ErrMany)
	told(t, p, make([]string, 8), api.OK)
}

// P11.1: wherever a hatch is released, it must be there.
func TestMissing(t *testing.T) {
	for _, stmt := range []string{
		"var x int = R ;", "set g = R ;", "set y = R ;", "set p . v = R ;", "set s [ R ] = 1 ;", "set s [ 1 ] = R ;", "set make ( R ) [ 1 ] = 1 ;", "set s [ R : 1 ] [ 1 ] = 1 ;",
		"if ( R < 1 ) { }", "if true { send c R ; }", "if true { } else { send c R ; }", "while ( R < 1 ) { }", "while false { while false { out o R ; } }", "out o R ;", "send c R ;",
		"call f ( R , 1 ) ;", "call f ( 1 , R ) ;", "call y = f ( R , 1 ) ;", "return ; out o R ;", "out o ( - R ) ;", "out o ( R + 1 ) ;", "out o ( 1 + R ) ;", "out o s [ R ] ;", "out o len ( s [ R : 1 ] ) ;",
		"out o len ( s [ 1 : R ] ) ;", "out o len ( make ( R ) ) ;", "set s = make ( R ) ;", "set s = make ( 1 ) [ 1 : 1 ] [ R : 2 ] ;", "if ( ( R == 1 ) & true ) { }",
	} {
		s := "sink o ; chan c 1 ; struct n { v int ; } var g int ; var p * n ; var s [ ] int ; func f ( a int , b int ) int { return 1 ; } thread t { var y int = 0 ; " + strings.ReplaceAll(stmt, "R", "release r") + " } thread u { }"
		p, _ := read(t, s)
		told(t, p, []string{"r"}, api.OK)
		told(t, p, []string{"q", "R", "r "}, api.ErrNone)
		told(t, p, nil, api.ErrNone)
	}
	p, _ := read(t, "func f ( ) int { return release r ; } thread u { }")
	told(t, p, []string{"s"}, api.ErrNone)
}

// P11.1: as many registers as may be, in a function and in a thread, and one more.
func TestRegisters(t *testing.T) {
	full := strings.Repeat("out o ( 1 + 2 ) ; ", 339) // 1,017
	seven := []string{"out o ( ( ( 1 + 2 ) + 3 ) + 4 ) ;", "out o len ( make ( len ( make ( ( 1 + 2 ) ) ) ) ) ;", "var x int = 1 ; var s [ ] int = make ( 1 ) ;", "var s [ ] int = make ( 1 ) ; out o s [ 1 ] ;", "var x bool = ( 1 < 2 ) ; while x { var p * n = nil ; set p = p ; } out o 1 ;"}
	for _, form := range []string{"thread t { BODY }", "func f ( ) { BODY } thread t { }", "thread t { } thread u { BODY }"} {
		for _, body := range seven {
			for more, want := range map[string]api.Errno{"": api.OK, "lock l ;": api.OK, "out o len ( make ( 1 ) ) ;": api.ErrSize, "out o 1 ;": api.ErrSize} {
				p, _ := read(t, "lock l ; sink o ; struct n { } "+strings.Replace(form, "BODY", full+body+more, 1))
				told(t, p, nil, want)
			}
		}
	}
	// The parameters' words and the result's count too.
	for end, want := range map[string]api.Errno{"( a [ ] int ) [ ] int": api.OK, "( a [ ] int , b int ) [ ] int": api.OK, "( a [ ] int , b [ ] int ) [ ] int": api.OK, "( a [ ] int , b [ ] int , c int ) [ ] int": api.OK, "( a [ ] int , b [ ] int , c [ ] int ) [ ] int": api.ErrSize, "( a [ ] int , b [ ] int , c [ ] int ) int": api.OK, "( a [ ] int , b [ ] int , c [ ] int , d int )": api.OK, "( a [ ] int , b [ ] int , c [ ] int , d [ ] int )": api.ErrSize} {
		p, _ := read(t, "sink o ; func f "+end+" { "+full+" }")
		told(t, p, nil, want)
	}
}

// P11.1: as many operations as may be, of all functions together, and one more. (A text's tokens are too few for so many; a tree's statements need not be.)
func TestOperations(t *testing.T) {
	locks := func(n int) []api.Stmt { return slices.Repeat([]api.Stmt{{Kind: api.SLock, Name: "l"}}, n) }
	for _, c := range []struct {
		first, second int
		want          api.Errno
	}{{4094, 0, api.OK}, {4095, 0, api.ErrSize}, {2000, 2094, api.OK}, {2000, 2095, api.ErrSize}, {0, 4094, api.OK}, {0, 4095, api.ErrSize}, {4000, 4000, api.ErrSize}} {
		told(t, api.Program{Decls: []api.Decl{{Kind: api.DLock, Name: "l"}, {Kind: api.DThread, Name: "t", Body: locks(c.first)}, {Kind: api.DFunc, Name: "f", Body: locks(c.second)}}}, nil, c.want)
	}
}

// times: a text for each of so many numbers, which stand where it has "#".
func times(count int, form string) string {
	text := ""
	for i := range count {
		text += strings.ReplaceAll(form, "#", fmt.Sprint(i)) + " "
	}
	return text
}

// P11.1: as many of all things as may be.
func TestMost(t *testing.T) {
	s := times(8, "lock l# ;") + times(4, "chan c# 4 ;") + times(16, "var g# [ ] int ;") + times(8, "input i# ;") + times(4, "sink o# ;") +
		times(4, "struct s# { "+times(8, "f# [ ] int ;")+"}") +
		times(8, "func f# ( a [ ] int , b [ ] int , c [ ] int , d [ ] int ) [ ] int { }") + times(3, "thread t# { }") +
		"thread t3 { lock l7 ; send c3 i7 ; set g15 = g14 ; call f7 ( g0 , g1 , g2 , g3 ) ; out o3 release h7 ; var x * s3 = new s3 ; set x . f7 = x . f6 ; " + times(31, "var v# [ ] int = g1 ;") + "}"
	m, _ := lowered(t, s, strings.Fields("h0 h1 h2 h3 h4 h5 h6 h7")...)
	if code.Words(m) != 32 || m.Structs[3].Size != 16 || len(m.Funcs) != 12 || !slices.Equal(m.Threads, []int{8, 9, 10, 11}) || m.Funcs[7].Params != 8 || m.Funcs[7].Regs != 10 {
		t.Errorf("%+v", m)
	}
	// The locals have the first 63 registers: x has 0, v30 has 61 and 62.
	want := "lock 7; input 63 7; send 3 63; load 64 28 0; load 65 29 1; store 30 64 0; store 31 65 1; load 66 0 0; load 67 1 1; load 68 2 0; load 69 3 1; load 70 4 0; load 71 5 1; load 72 6 0; load 73 7 1; call 7 -1 0 r66 r67 r68 r69 r70 r71 r72 r73; release 74 7; out 3 74; new 75 3; move 0 75; get 76 0 12 0; get 77 0 13 1; put 0 14 76 0; put 0 15 77 1; load 78 2 0; load 79 3 1; move 1 78; move 2 79; "
	got := brief(m.Funcs[11])
	if !strings.HasPrefix(got, want) || !strings.HasSuffix(got, "load 138 2 0; load 139 3 1; move 61 138; move 62 139; return") || m.Funcs[11].Regs != 140 {
		t.Error(got, m.Funcs[11].Regs)
	}
}

// P11.1: what is as deep as may be.
func TestDeepest(t *testing.T) {
	slices, sum, object := "1", "1", "p"
	for range 22 {
		slices, sum = "s [ "+slices+" ]", "( 1 + "+sum+" )"
	}
	for range 8 {
		object += " . n"
	}
	whiles := strings.Repeat("while true { ", 23) + "lock l ; " + strings.Repeat("} ", 23)
	m, _ := lowered(t, "lock l ; sink o ; struct n { v int ; n * n ; } var p * n ; var s [ ] int ; thread t { out o "+slices+" ; out o "+sum+" ; set "+object+" = "+object+" ; "+whiles+"}")
	ops, kinds := m.Funcs[0].Code, ""
	for _, o := range ops {
		kinds += fmt.Sprint(o.Kind, " ")
	}
	want := strings.Repeat("7 ", 44) + "1 " + strings.Repeat("13 ", 22) + "20 " + strings.Repeat("1 ", 23) + strings.Repeat("6 ", 22) + "20 7 " + strings.Repeat("11 ", 7) + "7 " + strings.Repeat("11 ", 8) + "12 " + strings.Repeat("1 21 ", 23) + "16 23 "
	if kinds != want {
		t.Fatalf("%s, want\n%s", kinds, want)
	}
	// A condition that is false leads to that of the while around, and what is done in the innermost one to its own.
	for i := range 23 {
		fork := len(ops) - 3 - i*2
		behind := fork - 3
		if i == 22 {
			behind = len(ops) - 1
		}
		if o := ops[fork]; o.Kind != api.OIf || o.Next != fork+1 || o.Else != behind {
			t.Error(i, o)
		}
	}
	if o := ops[len(ops)-2]; o.Next != len(ops)-4 {
		t.Error(o)
	}
}

// P11.2: what is handed in is as it was, in its spare room too.
func TestUnchanged(t *testing.T) {
	for _, end := range []string{"", "lock l ;", "set gs = 1 ;", "set g = release z ;"} {
		p, _ := read(t, ahead+"set gs [ ia ] = ib ; set gs [ 1 : 2 ] [ gp . s [ 3 ] ] = ( 1 + 2 ) ; call f ( 1 , gs , nil ) ; if gb { set gp . next = nil ; } else { return ; } "+end+" }")
		p = sample.Spare(p)
		hatches := append(make([]string, 0, 4), "ha", "spare")[:1]
		want := sample.Whole(p)
		first, firstErr := lower.Lower(p, hatches)
		second, secondErr := lower.Lower(p, hatches)
		if !reflect.DeepEqual(sample.Whole(p), want) || !slices.Equal(hatches[:2], []string{"ha", "spare"}) {
			t.Error("changed", p, hatches)
		}
		if !alike(first, second) || firstErr != secondErr {
			t.Error(first, firstErr, second, secondErr)
		}
	}
}

// numbers: all lists of numbers of an answer.
func numbers(m api.Module) [][]int {
	all := [][]int{m.Threads}
	for _, f := range m.Funcs {
		for _, o := range f.Code {
			all = append(all, o.Args)
		}
	}
	return all
}

// wipe changes all of an answer, to the end of its lists' memory; no list is told again where another one of its sort is.
func wipe(t *testing.T, m api.Module) {
	t.Helper()
	for _, list := range [][]api.Sized{m.Globals, m.Structs, m.Chans} {
		if slices.Contains(list, api.Sized{Name: "wiped"}) {
			t.Error("shared")
		}
		list = list[:cap(list)]
		for i := range list {
			list[i] = api.Sized{Name: "wiped"}
		}
	}
	for _, list := range [][]string{m.Locks, m.Inputs, m.Sinks, m.Hatches} {
		if slices.Contains(list, "wiped") {
			t.Error("shared")
		}
		list = list[:cap(list)]
		for i := range list {
			list[i] = "wiped"
		}
	}
	for _, list := range numbers(m) {
		if slices.Contains(list, -77) {
			t.Error("shared")
		}
		list = list[:cap(list)]
		for i := range list {
			list[i] = -77
		}
	}
	for _, f := range m.Funcs {
		if slices.ContainsFunc(f.Code, func(o api.Op) bool { return o.Kind == -77 }) {
			t.Error("shared")
		}
		list := f.Code[:cap(f.Code)]
		for i := range list {
			list[i] = api.Op{Kind: -77}
		}
	}
	clear(m.Funcs[:cap(m.Funcs)])
}

// P11.2, P2, rule 5: what is answered is new memory, its texts too, no two lists of it share any, and it hangs on the arguments alone.
func TestNewMemory(t *testing.T) {
	s := ahead + "var x [ ] int = gs ; call x = f ( 1 , x , nil ) ; call x = f ( 1 , x , nil ) ; call h ( ) ; }"
	p, _ := read(t, s)
	hatches := []string{"ha", "hb"}
	first, _ := lower.Lower(p, hatches)
	again, _ := lower.Lower(p, hatches)
	want := modelled(s, hatches)
	wipe(t, first)
	if third, _ := lower.Lower(p, hatches); !alike(again, want) || !alike(third, want) {
		t.Error("kept", again, third)
	}
	text := strings.Clone("abcdefghijk")
	within := func(part string) bool {
		from, at := uintptr(unsafe.Pointer(unsafe.StringData(text))), uintptr(unsafe.Pointer(unsafe.StringData(part)))
		return part != "" && at >= from && at < from+uintptr(len(text))
	}
	p = api.Program{}
	for kind := api.DLock; kind <= api.DThread; kind++ {
		p.Decls = append(p.Decls, api.Decl{Kind: kind, Name: text[kind : kind+1], Num: 1})
	}
	p.Decls[api.DVar-1].Type = "int"
	m, e := lower.Lower(p, []string{text[:1], text[9:]})
	names := slices.Concat(m.Locks, m.Inputs, m.Sinks, m.Hatches)
	for _, list := range [][]api.Sized{m.Globals, m.Structs, m.Chans} {
		for _, one := range list {
			names = append(names, one.Name)
		}
	}
	for _, f := range m.Funcs {
		names = append(names, f.Name)
	}
	if e != api.OK || strings.Join(names, "") != "bfgajkedchi" || slices.ContainsFunc(names, within) {
		t.Error(e, names)
	}
}

// ends: no answer is asked for, but that there is one, and that it is code or an error.
func ends(t *testing.T, p api.Program, hatches []string) api.Errno {
	t.Helper()
	m, e := lower.Lower(p, hatches)
	if e == api.OK != code.Right(m) || e != api.OK && !reflect.DeepEqual(m, api.Module{}) {
		t.Fatalf("%d: %.3000s", e, fmt.Sprint(p))
	}
	return e
}

// P1: trees that no text has, of all kinds and of none, with too few parts and too many.
func TestWrong(t *testing.T) {
	pairs := [][]api.Pair{nil, {{}}, {{Name: "a", Type: "*s"}, {Name: "b", Type: "[]int"}, {Name: "*", Type: "nil"}, {Name: "", Type: "*"}}}
	some := []api.Expr{{}, {Kind: api.EInt}, {Kind: api.EBool, Num: 7}, {Kind: api.ENil, Num: -1}, {Kind: api.EName}, {Kind: api.EName, Name: "a"}, {Kind: api.EName, Name: "b"}, {Kind: api.ENew}, {Kind: api.ENew, Name: "s"}, {Kind: api.EMake, Args: []api.Expr{{Kind: api.EInt}}}, {Kind: api.EBinary}, {Kind: api.EField}, {Kind: api.ERelease, Name: "a"}}
	for kind := -2; kind < 20; kind++ {
		for _, name := range []string{"", "a", "s", "-", "!", "==", "int", "f", "é\x00"} {
			for i := range some {
				for count := range 5 {
					args := slices.Repeat(some[i:i+1], count)
					e := api.Expr{Kind: kind, Num: math.MinInt, Name: name, Args: args}
					for _, s := range []api.Stmt{{Kind: api.SReturn, Exprs: []api.Expr{e}}, {Kind: kind, At: -1, Name: name, Type: name, Exprs: args, Body: []api.Stmt{{}}}, {Kind: kind, Name: "v", Type: "int", Exprs: args}, {Kind: kind, Name: "f", Exprs: append(args, e)}, {Kind: api.SSet, Exprs: []api.Expr{e, e}}, {Kind: api.SSet, Exprs: append(args, some[i])}} {
						ends(t, api.Program{Decls: []api.Decl{{Kind: api.DFunc, Name: "f", Pairs: pairs[count%3], Type: []string{"", "int", "nil", "x"}[i%4], Body: []api.Stmt{s}}, {Kind: api.DStruct, Name: "s", Pairs: pairs[i%3]}, {Kind: api.DThread, Name: "t", Body: []api.Stmt{{Body: []api.Stmt{s}}}}}}, []string{"a", "", "a"})
					}
				}
			}
		}
	}
}

// mutant makes trees that are a text's but for about one of so many parts.
type mutant struct {
	*rand.Rand
	rate int
}

func (r mutant) name() string {
	return strings.Fields("a v1 p0 f1 st0 lo1 fu3 int bool []int nil * *st0 - ! + < == h0 h9 . th2")[r.IntN(22)]
}

func (r mutant) exprs(list []api.Expr) []api.Expr {
	list = some(r, list, api.Expr{Kind: r.IntN(16) - 1, Name: r.name()})
	for i := range list {
		e := &list[i]
		e.Args = r.exprs(e.Args)
		switch r.IntN(r.rate) {
		case 0:
			e.Kind = r.IntN(16) - 1
		case 1:
			e.Name = r.name()
		case 2:
			e.Num = int(r.Uint64())
		case 3:
			e.Args = append(e.Args, list[r.IntN(len(list))])
		}
	}
	return list
}

func (r mutant) stmts(list []api.Stmt) []api.Stmt {
	list = some(r, list, api.Stmt{Kind: r.IntN(14) - 1, Name: r.name(), Type: r.name()})
	for i := range list {
		s := &list[i]
		s.Exprs, s.Body, s.Else = r.exprs(s.Exprs), r.stmts(s.Body), r.stmts(s.Else)
		switch r.IntN(r.rate) {
		case 0:
			s.Kind = r.IntN(14) - 1
		case 1:
			s.Name = r.name()
		case 2:
			s.Type = r.name()
		case 3:
			s.Body = append(s.Body, list[r.IntN(len(list))])
		case 4:
			s.Exprs = append(s.Exprs, r.exprs([]api.Expr{{Kind: api.EInt}, {Kind: api.EName, Name: r.name()}})...)
		}
	}
	return list
}

// some: a copy of a list, seldom with a part less, or another one more.
func some[T any](r mutant, list []T, more T) []T {
	list = slices.Clone(list)
	switch r.IntN(r.rate) {
	case 0:
		if len(list) > 0 {
			list = slices.Delete(list, 0, 1)
		}
	case 1:
		list = append(list, more)
	}
	return list
}

func (r mutant) program(p api.Program) api.Program {
	p.Decls = some(r, p.Decls, api.Decl{Kind: r.IntN(10), Name: r.name(), Type: r.name()})
	for i := range p.Decls {
		d := &p.Decls[i]
		d.Body, d.Pairs = r.stmts(d.Body), some(r, d.Pairs, api.Pair{Name: r.name(), Type: r.name()})
		switch r.IntN(r.rate) {
		case 0:
			d.Kind = r.IntN(10)
		case 1:
			d.Type = r.name()
		case 2:
			d.Num = int(r.Uint64())
		case 3:
			d.Name = r.name()
		}
	}
	return p
}

// P1: texts' trees with a few parts changed: many of these have the types that they must have, and no text.
func TestMutants(t *testing.T) {
	counts := map[api.Errno]int{}
	for seed := range uint64(3000) {
		r := mutant{rand.New(rand.NewPCG(seed, 1)), []int{100, 1000, 5000}[seed%3]}
		p, _ := read(t, sample.Program(seed, 0))
		if seed%2 == 0 {
			p.Decls = p.Decls[:r.IntN(len(p.Decls)+1)]
		}
		counts[ends(t, r.program(p), []string{"h0", "h1", "h2"})]++
	}
	if counts[api.OK] < 300 || counts[api.ErrType] < 300 || counts[api.ErrSize] < 100 {
		t.Error("the trees are all of one sort", counts)
	}
}

// P1: trees that have the types that they must have, but that no text has.
func TestOdd(t *testing.T) {
	number, truth := api.Expr{Kind: api.EInt, Num: 1}, api.Expr{Kind: api.EBool, Num: 1}
	object := api.Expr{Kind: api.EName, Name: "p"}
	for i, s := range []api.Stmt{
		{Kind: 99, Name: "x", Exprs: []api.Expr{number, truth}, Body: []api.Stmt{{Kind: api.SReturn}}},
		{Kind: api.SLock, Name: "l", Type: "x", Exprs: []api.Expr{truth}, Body: []api.Stmt{{Kind: api.SReturn}}, Else: []api.Stmt{{Kind: api.SVar, Name: "y", Type: "int", Exprs: []api.Expr{number}}}},
		{Kind: api.SOut, Name: "o", Exprs: []api.Expr{{Kind: api.EInt, Num: math.MinInt, Name: "x", Args: []api.Expr{truth, number}}}},
		{Kind: api.SSet, Exprs: []api.Expr{number, number}},
		{Kind: api.SSet, Exprs: []api.Expr{{Kind: api.EBinary, Name: "+", Args: []api.Expr{number, number}}, number}},
		{Kind: api.SSet, Exprs: []api.Expr{{Kind: api.ENil}, {Kind: api.ENil}}},
		{Kind: api.SSet, Exprs: []api.Expr{{Kind: api.EName, Name: "g", Args: []api.Expr{truth}}, number}},
		{Kind: api.SVar, Name: "x", Type: "nil", Exprs: []api.Expr{{Kind: api.ENil, Num: 3}}, Else: []api.Stmt{{Kind: api.SSet, Exprs: []api.Expr{{Kind: api.EName, Name: "x"}, {Kind: api.ENil}}}}},
		{Kind: api.SVar, Name: "", Type: "int", Exprs: []api.Expr{number}, Body: []api.Stmt{{Kind: api.SOut, Name: "o", Exprs: []api.Expr{{Kind: api.EName}}}, {Kind: api.SRecv, Name: "c"}, {Kind: api.SCall, Name: "f"}}},
		{Kind: api.SReturn, Body: []api.Stmt{{Kind: api.SReturn}}},
		{Kind: api.SWhile, Exprs: []api.Expr{truth}, Body: []api.Stmt{{}}, Else: []api.Stmt{{Kind: api.SReturn}}},
		{Kind: api.SIf, Exprs: []api.Expr{truth}, Body: []api.Stmt{{}}, Else: []api.Stmt{{}, {Kind: -1}}},
		{Kind: api.SOut, Name: "o", Exprs: []api.Expr{{Kind: api.EField, Name: "", Args: []api.Expr{object}}}},
	} {
		p := api.Program{Decls: []api.Decl{{Kind: api.DLock, Name: "l"}, {Kind: api.DSink, Name: "o"}, {Kind: api.DChan, Name: "c", Num: 1}, {Kind: api.DStruct, Name: "s", Pairs: []api.Pair{{Type: "int"}}}, {Kind: api.DVar, Name: "g", Type: "int"}, {Kind: api.DVar, Name: "p", Type: "*s"}, {Kind: api.DFunc, Name: "f"}, {Kind: api.DThread, Name: "t", Body: []api.Stmt{s}}, {Kind: api.DStruct, Name: "b", Body: []api.Stmt{s}}}}
		if diags := types.Check(p); len(diags) > 0 {
			t.Error(i, diags)
		}
		ends(t, p, nil)
	}
	thread := api.Decl{Kind: api.DThread, Name: "t"}
	for i, d := range []api.Decl{
		{Kind: api.DVar, Name: "v"}, {Kind: api.DVar, Name: "v", Type: "x"}, {Kind: api.DChan, Name: "v"}, {Kind: api.DChan, Name: "v", Num: 5}, {Kind: api.DChan, Name: "v", Num: math.MinInt}, {Kind: 0, Name: "v"}, {Kind: 77, Name: "v"},
		{Kind: api.DStruct, Name: "v", Pairs: []api.Pair{{Name: "a", Type: "[]int"}, {Name: "b", Type: "[]int"}, {Name: "c", Type: "[]int"}, {Name: "d", Type: "[]int"}, {Name: "e", Type: "[]int"}, {Name: "f", Type: "[]int"}, {Name: "g", Type: "[]int"}, {Name: "h", Type: "[]int"}, {Name: "i", Type: "int"}}},
		{Kind: api.DThread, Name: "v", Pairs: []api.Pair{{Name: "a", Type: "int"}}}, {Kind: api.DThread, Name: "v", Type: "int"}, {Kind: api.DThread, Name: "v", Type: "[]int"}, {Kind: api.DFunc, Name: "v", Type: "nil"}, {Kind: api.DFunc, Name: "v", Type: "x", Pairs: []api.Pair{{Name: "a"}}},
	} {
		p := api.Program{Decls: []api.Decl{d, thread}}
		if diags := types.Check(p); len(diags) > 0 {
			t.Error(i, diags)
		}
		ends(t, p, nil)
	}
}

// P1: parts that stand in a tree again and again, or within themselves, and lists and names far too long.
func TestEndless(t *testing.T) {
	wide := []api.Expr{{Kind: api.EInt}, {Kind: api.EInt}}
	for range 60 {
		wide = []api.Expr{{Kind: api.EBinary, Name: "+", Args: wide}, {Kind: api.EBinary, Name: "-", Args: wide}}
	}
	long := strings.Repeat("n", 1<<20)
	thread := func(list ...api.Stmt) api.Program {
		return api.Program{Decls: []api.Decl{{Kind: api.DSink, Name: "o"}, {Kind: api.DThread, Name: "t", Body: list}}}
	}
	for kind := range 15 {
		one := api.Expr{Kind: kind, Name: "-", Args: make([]api.Expr, 1)}
		one.Args[0] = one
		s := make([]api.Stmt, 2)
		s[0] = api.Stmt{Kind: kind, Name: "t", Type: "int", Exprs: []api.Expr{{Kind: api.EBool}}, Body: s, Else: s}
		s[1] = s[0]
		told(t, thread(s...), nil, api.ErrType)
		for _, e := range []api.Expr{one, {Kind: kind, Name: "-", Args: wide}, {Kind: kind, Args: slices.Repeat([]api.Expr{{Kind: kind}}, 1<<17)}, {Kind: kind, Args: slices.Repeat([]api.Expr{{Kind: api.ERelease, Name: long}}, 1<<10)}} {
			told(t, thread(api.Stmt{Kind: api.SOut, Name: "o", Exprs: []api.Expr{e}}), []string{long}, api.ErrType)
		}
	}
	told(t, thread(), slices.Repeat([]string{long}, 1<<12), api.ErrMany)
}

// P1: trees as deep and as long as none of a text is come to an end soon.
func TestDeep(t *testing.T) {
	e := api.Expr{Kind: api.EName, Name: "p"}
	for range 9000 {
		e = api.Expr{Kind: api.EField, Name: "n", Args: []api.Expr{e}}
	}
	list := []api.Stmt{{Kind: api.SLock, Name: "l"}}
	truth := []api.Expr{{Kind: api.EBool}}
	for i := range 9000 {
		list = []api.Stmt{{Kind: api.SIf + i%2, Exprs: truth, Body: list}}
	}
	ahead := []api.Decl{{Kind: api.DLock, Name: "l"}, {Kind: api.DStruct, Name: "s", Pairs: []api.Pair{{Name: "n", Type: "*s"}}}, {Kind: api.DVar, Name: "p", Type: "*s"}}
	told(t, api.Program{Decls: append(ahead, api.Decl{Kind: api.DThread, Name: "t", Body: []api.Stmt{{Kind: api.SSet, Exprs: []api.Expr{{Kind: api.EName, Name: "p"}, e}}}})}, nil, api.ErrSize)
	told(t, api.Program{Decls: append(ahead, api.Decl{Kind: api.DThread, Name: "t", Body: list})}, nil, api.ErrSize)
}
