package scope_test

import (
	"math"
	"reflect"
	"slices"
	"strconv"
	"strings"
	"testing"
	"unsafe"

	"portcullis/api"
	"portcullis/parse"
	"portcullis/sample"
	"portcullis/scope"
	"portcullis/tree"
)

// read: the program of a text, and where its marks "@" stood.
func read(t *testing.T, s string) (api.Program, []int) {
	t.Helper()
	s, marks := sample.Marked(s)
	p, at, e := parse.Program(s)
	if e != api.OK {
		t.Fatalf("%.300q: %d %d", s, at, e)
	}
	return p, marks
}

// told: of a text's marks what is wrong there.
func told(t *testing.T, s, want string) {
	t.Helper()
	p, marks := read(t, s)
	list := sample.Wanted(want, marks)
	if _, got := scope.Names(p); !slices.Equal(got, list) {
		t.Errorf("%.300q:\n%v, want\n%v", s, got, list)
	}
}

// equal: the same tables; a nil list and an empty one are the same.
func equal(a, b api.Table) bool {
	lists := func(x api.Table) [][]int {
		return [][]int{x.Locks, x.Chans, x.Structs, x.Globals, x.Inputs, x.Sinks, x.Funcs, x.Threads}
	}
	return slices.EqualFunc(lists(a), lists(b), slices.Equal[[]int]) && slices.EqualFunc(a.Locals, b.Locals, slices.Equal[[]api.Pair])
}

// P6.1: ErrTwice of declarations, whatever their kinds, and at the ones behind the first.
func TestTwiceDecls(t *testing.T) {
	told(t, "lock a ; sink @a ;", "twice a")
	told(t, "lock a ; lock @a ; thread @a { } func @a ( ) { } chan b 1 ; input @b ; var @b int ; struct @a { }", "twice a|twice a|twice a|twice b|twice b|twice a")
	told(t, "lock a ; lock b ; lock ab ; lock a_ ; lock a1 ; lock aa ;", "")
	decls := map[string]string{"lock": ";", "sink": ";", "input": ";", "chan": "2 ;", "var": "bool ;", "struct": "{ }", "func": "( ) { }", "thread": "{ }"}
	for one, oneEnd := range decls {
		for other, otherEnd := range decls {
			told(t, one+" a "+oneEnd+" "+other+" b "+otherEnd, "")
			told(t, one+" a "+oneEnd+" "+other+" @a "+otherEnd+" "+one+" @a "+oneEnd, "twice a|twice a")
		}
	}
}

// P6.1: ErrTwice of parameters and fields, at their declaration.
func TestTwicePairs(t *testing.T) {
	told(t, "func @f ( x int , x bool , f int ) { }", "twice f, twice x")
	told(t, "func @f ( x int , y int , x int , x int ) { }", "twice x")
	told(t, "func @f ( b int , b int , a int , a int ) { }", "twice a, twice b")
	told(t, "lock a ; func @f ( a int , z int ) { } lock z ;", "twice a, twice z")
	told(t, "lock a ; func @f ( a int , a int ) { }", "twice a")
	told(t, "func f ( x int ) { } func g ( x int ) { } thread t { var x int = 1 ; }", "")
	told(t, "struct @s { a int ; a int ; b int ; b * s ; a int ; }", "twice a, twice b")
	// A field may have the name of whatever else.
	told(t, "lock a ; struct s { a int ; s int ; t int ; x int ; f int ; } struct r { a int ; } thread t { var x int = 1 ; } func f ( y int ) { }", "")
	// A parameter's name and the function's own, twice.
	told(t, "lock f ; func @f ( f int ) { }", "twice f")
}

// P6.1: ErrTwice at an SVar, of locals ahead and of all declarations.
func TestTwiceLocals(t *testing.T) {
	told(t, "thread t { var x int = 1 ; @var x bool = true ; @var x int = x ; }", "twice x|twice x")
	told(t, "func f ( x int , y int ) { @var y int = 1 ; var z int = 1 ; @var x int = 1 ; @var z int = 1 ; }", "twice y|twice x|twice z")
	told(t, "lock a ; thread t { @var a int = 1 ; @var t int = 1 ; @var b int = 1 ; @var f int = 1 ; @var s int = 1 ; } sink b ; func f ( ) { } struct s { }", "twice a|twice t|twice b|twice f|twice s")
	told(t, "var g int ; input i ; chan c 1 ; thread t { @var g int = g ; @var i int = i ; @var c int = @c ; }", "twice g|twice i|twice c|kind c")
	// Blocks have no names of their own.
	told(t, "thread t { if true { var x int = 1 ; } else { @var x int = 1 ; while true { @var x int = 1 ; } } while true { var y int = 1 ; } @var y int = 1 ; @var x int = 1 ; }", "twice x|twice x|twice y|twice x")
	// Of another function's locals nothing is known.
	told(t, "thread t { var x int = 1 ; } thread u { var x int = 1 ; } func f ( x int ) { } func g ( y int ) { var x int = y ; }", "")
}

// P6.1: ErrMany at the declarations of a kind ahead of which there are as many as may be, whatever their names.
func TestManyDecls(t *testing.T) {
	for kind, c := range map[string]struct {
		most int
		end  string
	}{"thread": {4, "{ }"}, "lock": {8, ";"}, "chan": {4, "1 ;"}, "var": {16, "int ;"}, "input": {8, ";"}, "sink": {4, ";"}, "func": {8, "( ) { }"}, "struct": {4, "{ }"}} {
		other := "sink"
		if kind == "sink" {
			other = "input"
		}
		s, want := other+" other ; ", ""
		for i := range c.most + 3 {
			name := "n" + strconv.Itoa(i)
			if i >= c.most {
				want += "many " + name + "|"
				name = "@" + name
			}
			s += kind + " " + name + " " + c.end + " "
			told(t, s, want)
		}
		// Those whose name is there already count too.
		told(t, kind+" a "+c.end+strings.Repeat(" "+kind+" @a "+c.end, c.most+1), strings.Repeat("twice a|", c.most-1)+"many a, twice a|many a, twice a")
	}
}

// vars: a statement for each number of a row, with what stands ahead of its mark.
func vars(mark string, from, to int) string {
	s := ""
	for i := from; i < to; i++ {
		s += mark + "var v" + strconv.Itoa(i) + " int = 1 ; "
	}
	return s
}

// P6.1: ErrMany at an SVar ahead of which there are 32 locals.
func TestManyLocals(t *testing.T) {
	told(t, "thread t { "+vars("", 0, 32)+"}", "")
	told(t, "thread t { "+vars("", 0, 32)+vars("@", 32, 34)+"}", "many v32|many v33")
	told(t, "func f ( a int , b int , c int ) { "+vars("", 0, 29)+vars("@", 29, 30)+"} thread t { "+vars("", 0, 32)+"}", "many v29")
	told(t, "thread t { if true { "+vars("", 0, 20)+"} else { "+vars("", 20, 31)+"} while true { "+vars("", 31, 32)+vars("@", 32, 33)+"} "+vars("@", 33, 34)+"}", "many v32|many v33")
	// A name twice is one local, and there are as many ahead of it whatever its name is.
	told(t, "thread t { "+vars("", 0, 20)+vars("@", 0, 12)+vars("", 20, 32)+vars("@", 32, 33)+vars("@", 5, 6)+"}", "twice v0|twice v1|twice v2|twice v3|twice v4|twice v5|twice v6|twice v7|twice v8|twice v9|twice v10|twice v11|many v32|many v5, twice v5")
	told(t, "func @f ( a int , a int , a int , a int ) { "+vars("", 0, 31)+vars("@", 31, 32)+"}", "twice a|many v31")
	// One that has a declaration's name is a local too.
	told(t, "lock l ; thread t { @var l int = 1 ; "+vars("", 0, 31)+vars("@", 31, 32)+"}", "twice l|many v31")
	// Beyond so many they are locals still.
	p, _ := read(t, "thread t { "+vars("", 0, 40)+"send v39 v39 ; recv v39 v39 ; }")
	x, diags := scope.Names(p)
	if len(x.Locals[0]) != 40 || x.Locals[0][39] != (api.Pair{Name: "v39", Type: "int"}) || len(diags) != 8+2 {
		t.Error(x, diags)
	}
}

// P6.1: ErrNone and ErrKind of each use of a name, where nothing, each kind of declaration, and a local has it.
func TestUses(t *testing.T) {
	decls := "lock lock_ ; chan chan_ 1 ; struct struct_ { } var var_ int ; input input_ ; sink sink_ ; func func_ ( ) { } thread thread_ { } "
	kinds := strings.Fields("lock_ chan_ struct_ var_ input_ sink_ func_ thread_")
	for _, c := range []struct{ use, good string }{
		{"thread t { @lock N ; }", "lock_"}, {"thread t { @unlock N ; }", "lock_"}, {"thread t { @send N 1 ; }", "chan_"}, {"thread t { var x int = 1 ; @recv N x ; }", "chan_"}, {"thread t { @out N 1 ; }", "sink_"},
		{"thread t { @call N ( ) ; }", "func_"}, {"thread t { var x int = 1 ; @call x = N ( 1 ) ; }", "func_"}, {"thread t { @recv chan_ N ; }", "local"}, {"thread t { @call N = func_ ( ) ; }", "local"},
		{"thread t { @var x * N = nil ; }", "struct_"}, {"var @g * N ;", "struct_"}, {"func @f ( x * N ) { }", "struct_"}, {"func @f ( ) * N { }", "struct_"}, {"struct @s { x int ; y * N ; }", "struct_"}, {"thread t { return @new N ; }", "struct_"},
		{"thread t { return @N ; }", "var_ input_ local"}, {"thread t { set @N = 1 ; }", "var_ input_ local"}, {"thread t { set @N . f = 1 ; }", "var_ input_ local"}, {"thread t { set @N [ 1 ] = 1 ; }", "var_ input_ local"}, {"thread t { set var_ [ @N ] = 1 ; }", "var_ input_ local"}, {"thread t { set var_ = @N ; }", "var_ input_ local"},
		{"thread t { if @N { } }", "var_ input_ local"}, {"thread t { while @N { } }", "var_ input_ local"}, {"thread t { send chan_ @N ; }", "var_ input_ local"}, {"thread t { out sink_ @N ; }", "var_ input_ local"}, {"thread t { var x int = @N ; }", "var_ input_ local"}, {"thread t { call func_ ( 1 , @N , 2 ) ; }", "var_ input_ local"},
		{"thread t { if true { } else { while true { out sink_ @N ; } } }", "var_ input_ local"},
		{"thread t { return ( - @N ) ; }", "var_ input_ local"}, {"thread t { return ( 1 + @N ) ; }", "var_ input_ local"}, {"thread t { return ( @N * 1 ) ; }", "var_ input_ local"}, {"thread t { return len ( @N ) ; }", "var_ input_ local"}, {"thread t { return make ( @N ) ; }", "var_ input_ local"}, {"thread t { return @N . f ; }", "var_ input_ local"},
		{"thread t { return @N [ 1 ] ; }", "var_ input_ local"}, {"thread t { return var_ [ @N ] ; }", "var_ input_ local"}, {"thread t { return @N [ 1 : 1 ] ; }", "var_ input_ local"}, {"thread t { return var_ [ @N : 1 ] ; }", "var_ input_ local"}, {"thread t { return var_ [ 1 : @N ] ; }", "var_ input_ local"},
		// Names of fields and hatches aren't asked.
		{"thread t { return var_ . N ; }", "none local " + strings.Join(kinds, " ")}, {"thread t { return release N ; }", "none local " + strings.Join(kinds, " ")},
	} {
		good := func(name string) bool { return slices.Contains(strings.Fields(c.good), name) }
		tell := func(name, wrong string) string {
			if good(name) {
				return ""
			}
			return wrong
		}
		for _, kind := range kinds {
			with := strings.ReplaceAll(c.use, "N", kind)
			told(t, with+" "+decls, tell(kind, "kind "+kind))
			told(t, decls+with, tell(kind, "kind "+kind))
		}
		none := strings.ReplaceAll(c.use, "N", "none")
		told(t, none+" "+decls, tell("none", "none none"))
		// The locals of others say nothing, nor do fields.
		told(t, decls+none+" thread u { var none int = 1 ; } func v ( none int ) { } struct w { none int ; }", tell("none", "none none"))
		if with := strings.ReplaceAll(c.use, "N", "local"); strings.HasPrefix(with, "thread t { ") {
			told(t, decls+strings.Replace(with, "{ ", "{ if true { var local int = 1 ; } ", 1), tell("local", "none local"))
			told(t, decls+strings.Replace(with, "thread t { ", "func t ( local int ) { ", 1), tell("local", "none local"))
			// Behind a use it is no local there.
			told(t, decls+with[:len(with)-1]+"var local int = 1 ; }", tell("none", "none local"))
		}
	}
}

// P6.1: a local hides a declaration of its name where a local may stand, and nowhere else; of several declarations the first one counts.
func TestHidden(t *testing.T) {
	told(t, "lock a ; sink o ; thread t { out o @a ; @var a int = @a ; out o a ; lock a ; @send a a ; @recv a a ; @call a = a ( a ) ; }", "kind a|twice a|kind a|kind a|kind a|kind a")
	told(t, "sink a ; thread t { @var a int = 1 ; out a a ; @lock a ; }", "twice a|kind a")
	told(t, "lock a ; sink @a ; thread t { lock a ; @out a 1 ; }", "twice a|kind a")
	told(t, "sink a ; lock @a ; thread t { @lock a ; out a 1 ; }", "twice a|kind a")
	told(t, "struct a { } var @a int ; thread t { var x * a = new a ; set @a = x ; }", "twice a|kind a")
	// What is declared behind the first one of a function's name stays told, of each by itself.
	told(t, "func f ( a int ) { return @b ; } func @f ( b int ) { return @a ; }", "none b|twice f|none a")
}

// P6.1: a local is one behind its SVar, in the text, whatever runs first.
func TestAhead(t *testing.T) {
	told(t, "sink s ; thread t { set @x = 1 ; var x int = @y ; if x { out s @z ; var y int = x ; } else { var z int = y ; } while y { out s @w ; var w int = z ; } out s w ; }", "none x|none y|none z|none w")
	told(t, "thread t { var x int = ( 1 + @x ) ; set x = x ; }", "none x")
	told(t, "thread t { @var x * x = nil ; }", "none x")
	told(t, "thread t { @var x * y = @new y ; @var y * x = x ; }", "none y|none y|none x")
	// Declarations are known everywhere.
	told(t, "thread t { lock l ; send c g ; var x * s = g ; set x = i ; out o g ; call f ( ) ; } lock l ; chan c 1 ; var g * s ; struct s { n * s ; } input i ; sink o ; func f ( ) { }", "")
}

// P6.1: by places, then codes, then names, the same one once.
func TestOrder(t *testing.T) {
	told(t, "thread t { @out s @x ; }", "none s|none x")
	told(t, "var @g * q ; struct @s { a int ; a int ; } thread t { @var v * g = @new t ; @call x = s ( ) ; @recv c s ; }", "none q|twice a|kind g|kind t|none x, kind s|none c, kind s")
	told(t, "func @f ( z * b , z * a , t * t , z * b ) * a { } thread t { }", "twice t, twice z, none a, none b, kind t")
	told(t, "lock f ; thread a { } thread a2 { } thread a3 { } thread a4 { } thread @f { }", "many f, twice f")
	told(t, "thread t { @call b = a ( @b , @a , @a ) ; @call a = a ( ) ; }", "none a, none b|none b|none a|none a|none a")
	// The places count, not the rows of what stands there.
	p := api.Program{Decls: []api.Decl{
		{Kind: api.DThread, Name: "t", At: 9, Body: []api.Stmt{{Kind: api.SOut, Name: "c", At: 5, Exprs: []api.Expr{{Kind: api.EName, Name: "b", At: 7}}}, {Kind: api.SOut, Name: "a", At: 5}, {Kind: api.SLock, Name: "c", At: 5}, {Kind: api.SLock, Name: "t", At: -3}}},
		{Kind: api.DVar, Name: "t", Type: "*zz", At: -5}, {Kind: api.DVar, Name: "t", Type: "*z", At: math.MaxInt},
		{Kind: api.DVar, Name: "t", Type: "*z_", At: math.MinInt},
	}}
	want := []api.Diag{{At: math.MinInt, Code: 40, Name: "t"}, {At: math.MinInt, Code: 41, Name: "z_"}, {At: -5, Code: 40, Name: "t"}, {At: -5, Code: 41, Name: "zz"}, {At: -3, Code: 42, Name: "t"}, {At: 5, Code: 41, Name: "a"}, {At: 5, Code: 41, Name: "c"}, {At: 7, Code: 41, Name: "b"}, {At: math.MaxInt, Code: 40, Name: "t"}, {At: math.MaxInt, Code: 41, Name: "z"}}
	if _, got := scope.Names(p); !slices.Equal(got, want) {
		t.Error(got)
	}
}

// P6.1: the table, of a program with something of all kinds.
func TestTable(t *testing.T) {
	p, _ := read(t, "thread a { var v int = 1 ; if true { var w [ ] int = make ( 1 ) ; } else { var u bool = true ; } while true { var z * s = nil ; } } struct s { n * s ; } lock l ; func f ( p * s , q [ ] int ) int { var r bool = false ; } var g int ; input i ; sink o ; chan c 1 ; thread b { } lock l2 ; struct s2 { } func f2 ( ) { } var g2 int ; input i2 ; sink o2 ; chan c2 1 ;")
	want := api.Table{Threads: []int{0, 8}, Structs: []int{1, 10}, Locks: []int{2, 9}, Funcs: []int{3, 11}, Globals: []int{4, 12}, Inputs: []int{5, 13}, Sinks: []int{6, 14}, Chans: []int{7, 15},
		Locals: [][]api.Pair{{{Name: "v", Type: "int"}, {Name: "w", Type: "[]int"}, {Name: "u", Type: "bool"}, {Name: "z", Type: "*s"}}, {{Name: "p", Type: "*s"}, {Name: "q", Type: "[]int"}, {Name: "r", Type: "bool"}}, nil, nil}}
	if x, diags := scope.Names(p); !equal(x, want) || len(diags) != 0 {
		t.Error(x, diags)
	}
	// Also with diagnostics: of each name its first local.
	p, _ = read(t, "lock l ; lock l ; func f ( a int , b int , a bool ) { var c int = 1 ; var b * q = 1 ; var l int = 1 ; var c bool = 1 ; } func f ( b bool ) { } lock l3 ; thread f { var a int = 1 ; }")
	want = api.Table{Locks: []int{0, 1, 4}, Funcs: []int{2, 3}, Threads: []int{5}, Locals: [][]api.Pair{{{Name: "a", Type: "int"}, {Name: "b", Type: "int"}, {Name: "c", Type: "int"}, {Name: "l", Type: "int"}}, {{Name: "b", Type: "bool"}}, {{Name: "a", Type: "int"}}}}
	if x, diags := scope.Names(p); !equal(x, want) || len(diags) != 8 {
		t.Error(x, diags)
	}
	for _, p := range []api.Program{{}, {Decls: []api.Decl{}}} {
		if x, diags := scope.Names(p); !equal(x, api.Table{}) || len(diags) != 0 {
			t.Error(x, diags)
		}
	}
}

// bare: a program without its places.
func bare(p api.Program) api.Program {
	var stmts func(list []api.Stmt) []api.Stmt
	var exprs func(list []api.Expr) []api.Expr
	stmts = func(list []api.Stmt) []api.Stmt {
		list = slices.Clone(list)
		for i, s := range list {
			list[i].At, list[i].Exprs, list[i].Body, list[i].Else = 0, exprs(s.Exprs), stmts(s.Body), stmts(s.Else)
		}
		return list
	}
	exprs = func(list []api.Expr) []api.Expr {
		list = slices.Clone(list)
		for i, e := range list {
			list[i].At, list[i].Args = 0, exprs(e.Args)
		}
		return list
	}
	list := slices.Clone(p.Decls)
	for i, d := range list {
		list[i].At, list[i].Body = 0, stmts(d.Body)
	}
	return api.Program{Decls: list}
}

// P6.1: programs of all sorts are told as the chapter's words tell their texts, with places and without.
func TestModel(t *testing.T) {
	codes := map[api.Errno]int{}
	clean := 0
	for seed := range uint64(3000) {
		s := made(seed)
		p, at, e := parse.Program(s)
		if e == api.ErrMany || e == api.ErrDeep || e == api.ErrLong {
			continue
		}
		if e != api.OK {
			t.Fatalf("%d: %q: %d %d", seed, s, at, e)
		}
		for _, with := range []bool{true, false} {
			if !with {
				p = bare(p)
			}
			x, diags := scope.Names(p)
			table, want := modelled(s, with)
			if !equal(x, table) || !slices.Equal(diags, want) {
				t.Fatalf("%d: %q:\n%v\n%v, want\n%v\n%v", seed, s, x, diags, table, want)
			}
			for _, d := range diags {
				codes[d.Code]++
			}
			if len(diags) == 0 {
				clean++
			}
		}
	}
	if len(codes) != 4 || codes[api.ErrMany] < 500 || clean < 20 {
		t.Error("the texts are all of one sort", codes, clean)
	}
}

// P6.1, P6.3: the greatest programs that layer 4 gives, of which some have no text of layer 3 any more, are told like all others.
func TestGreatest(t *testing.T) {
	short, long := strings.Repeat("m", 12), strings.Repeat("n", 16)
	fill := func(part string, bytes, tokens int) string {
		return strings.Repeat(part, min((16384-10)/bytes, (4096-4)/tokens))
	}
	wrong := 0
	for _, part := range []struct {
		text   string
		tokens int
	}{{"return;", 2}, {"lock " + long + ";", 3}, {"recv " + short + " " + long + ";", 4}, {"return " + short + "[" + long + ":" + long + "];", 8}, {"return " + long + "." + long + ";", 5}, {"set n[n[n[n]]]=n[n[n]];", 21}, {"return(1+1);", 7}, {"var " + long + " *" + long + "=new " + long + ";", 8}} {
		s := "thread t{" + fill(part.text, len(part.text), part.tokens) + "}"
		p, at, e := parse.Program(s)
		if e != api.OK {
			t.Fatalf("%.100q: %d %d", s, at, e)
		}
		if !tree.Right(p) {
			wrong++
		}
		x, diags := scope.Names(p)
		table, want := modelled(s, true)
		if !equal(x, table) || !slices.Equal(diags, want) {
			t.Errorf("%.100q: %v %.300v", s, x, diags)
		}
	}
	if wrong == 0 {
		t.Error("all are right")
	}
}

// P6.2: the first declaration with a name.
func TestFind(t *testing.T) {
	p, _ := read(t, "thread a { var x int = 1 ; } struct b { f int ; } lock a ; func c ( p int ) { } lock b ; lock c1 ;")
	for name, want := range map[string]int{"a": 0, "b": 1, "c": 3, "c1": 5, "x": -1, "f": -1, "p": -1, "": -1, "A": -1, "a ": -1, "c\x00": -1, "thread": -1, "c12": -1} {
		if got := scope.Find(p, name); got != want {
			t.Error(name, got)
		}
	}
	if scope.Find(api.Program{}, "") != -1 || scope.Find(api.Program{}, "a") != -1 || scope.Find(api.Program{Decls: make([]api.Decl, 2)}, "") != 0 {
		t.Error("Find")
	}
	for i := range 300 {
		p.Decls = append(p.Decls, api.Decl{Kind: api.DLock, Name: "n" + strconv.Itoa(i)})
		if scope.Find(p, "n"+strconv.Itoa(i)) != 6+i || scope.Find(p, "n"+strconv.Itoa(i+1)) != -1 {
			t.Error(i)
		}
	}
}

const wholeText = "lock l ; chan c 4 ; struct s { f [ ] int ; f * q ; } var g * s ; input i ; sink o ; func f ( p * s , q bool , p int ) int { if g . f [ i ] { var x int = y ; } else { var x * s = new s ; } while ( 1 + zz ) { lock l ; } send c g ; out o 1 ; call v = f ( 1 , w [ 1 : x ] ) ; } thread t { recv c v ; recv l t ; } lock l ;"

// P6.3: what is handed in is as it was, in its spare room too.
func TestUnchanged(t *testing.T) {
	p, _ := read(t, wholeText)
	p = sample.Spare(p)
	want := sample.Whole(p)
	if _, diags := scope.Names(p); len(diags) == 0 || scope.Find(p, "t") != 7 || scope.Find(p, "spare") != -1 {
		t.Error(diags)
	}
	if !reflect.DeepEqual(sample.Whole(p), want) {
		t.Error("changed", p)
	}
}

// lists: all the lists of numbers of a table, to their memory's end.
func lists(x api.Table) [][]int {
	all := [][]int{x.Locks, x.Chans, x.Structs, x.Globals, x.Inputs, x.Sinks, x.Funcs, x.Threads}
	for i, list := range all {
		all[i] = list[:cap(list)]
	}
	return all
}

// P6.3, P2, rule 5: what is answered is new memory, its texts too; no two lists of an answer share any; an answer hangs on the program alone.
func TestNewMemory(t *testing.T) {
	p, _ := read(t, wholeText)
	x, diags := scope.Names(p)
	y, again := scope.Names(p)
	if !equal(x, y) || !slices.Equal(diags, again) {
		t.Error("another answer", x, y, diags, again)
	}
	for i, list := range lists(x) {
		for k := range list {
			list[k] = 100 + i
		}
	}
	for i, list := range x.Locals {
		list = list[:cap(list)]
		for k := range list {
			list[k] = api.Pair{Name: strconv.Itoa(i)}
		}
	}
	for i, list := range lists(x) {
		if slices.ContainsFunc(list, func(n int) bool { return n != 100+i }) {
			t.Error("shared", i)
		}
	}
	for i, list := range x.Locals {
		if slices.ContainsFunc(list[:cap(list)], func(q api.Pair) bool { return q.Name != strconv.Itoa(i) }) {
			t.Error("shared locals", i)
		}
	}
	for i := range diags[:cap(diags)] {
		diags[:cap(diags)][i] = api.Diag{}
	}
	z, third := scope.Names(p)
	if !equal(y, z) || !slices.Equal(again, third) {
		t.Error("kept", z, third)
	}
}

// P6.3, rule 5: the texts of an answer are none of the program's.
func TestNewTexts(t *testing.T) {
	text := strings.Clone("abcdefg*h")
	p := api.Program{Decls: []api.Decl{
		{Kind: api.DFunc, Name: text[:1], Pairs: []api.Pair{{Name: text[1:2], Type: text[7:]}, {Name: text[1:2], Type: "int"}}, Body: []api.Stmt{{Kind: api.SVar, Name: text[2:3], Type: text[7:], Exprs: []api.Expr{{Kind: api.EName, Name: text[3:4]}}}, {Kind: api.SLock, Name: text[:1]}}},
		{Kind: api.DThread, Name: text[:1]},
	}}
	within := func(part string) bool {
		from, at := uintptr(unsafe.Pointer(unsafe.StringData(text))), uintptr(unsafe.Pointer(unsafe.StringData(part)))
		return part != "" && at >= from && at < from+uintptr(len(text))
	}
	x, diags := scope.Names(p)
	if len(diags) != 5 || len(x.Locals) != 2 || len(x.Locals[0]) != 2 {
		t.Fatal(x, diags)
	}
	for _, d := range diags {
		if within(d.Name) {
			t.Error("of the program", d)
		}
	}
	for _, q := range x.Locals[0] {
		if within(q.Name) || within(q.Type) {
			t.Error("of the program", q)
		}
	}
}

// ends: no answer is asked for, but that there is one.
func ends(list ...api.Decl) {
	p := api.Program{Decls: list}
	scope.Names(p)
	scope.Find(p, "no")
}

func thread(list ...api.Stmt) api.Decl { return api.Decl{Kind: api.DThread, Name: "t", Body: list} }

// P1, P6.3: programs that no text has, of all kinds and of none, with too few parts and too many.
func TestWrong(t *testing.T) {
	pairs := [][]api.Pair{nil, {{}}, {{Name: "a", Type: "*"}, {Name: "a", Type: "**a"}, {Name: "*", Type: "?"}}}
	exprs := [][]api.Expr{nil, {{}}, {{Kind: api.EName}, {Kind: api.ENew, Name: "\xff"}, {Kind: api.EField, Name: "f"}, {Kind: api.EBinary}, {Kind: -1, Num: math.MinInt, Args: []api.Expr{{Kind: api.EName, Name: "if"}}}}}
	for kind := -2; kind < 20; kind++ {
		for _, num := range []int{0, -1, math.MinInt, math.MaxInt} {
			for _, name := range []string{"", "a", "*", "if", "é\x00", strings.Repeat("n", 40)} {
				for i, typ := range []string{"", "*", "a", "[]int", "*a"} {
					body := []api.Stmt{{Kind: kind, At: num, Name: name, Type: typ, Exprs: exprs[i%3], Body: []api.Stmt{{}}, Else: []api.Stmt{{Kind: kind, Name: name}}}}
					ends(api.Decl{Kind: kind, At: num, Num: num, Name: name, Type: typ, Pairs: pairs[i%3], Body: body}, thread(body...), api.Decl{Kind: api.DFunc, Name: name, Pairs: pairs[i%3], Type: typ, Body: body}, api.Decl{Kind: kind})
				}
			}
		}
	}
}

// P1, P6.3: parts that stand in a program again and again, or within themselves, and lists and names far too long.
func TestEndless(t *testing.T) {
	for kind := range 14 {
		e := api.Expr{Kind: kind, Name: "e", Args: make([]api.Expr, 3)}
		for i := range e.Args {
			e.Args[i] = e
		}
		ends(thread(api.Stmt{Kind: api.SReturn, Exprs: []api.Expr{e, e}}))
		ends(thread(api.Stmt{Kind: api.SReturn, Exprs: slices.Repeat([]api.Expr{{Kind: kind}}, 1<<17)}))
		s := make([]api.Stmt, 2)
		s[0] = api.Stmt{Kind: kind, Name: "s", Type: "*s", Body: s}
		s[1] = api.Stmt{Kind: kind, Name: "s", Type: "s", Else: s}
		ends(thread(s...), api.Decl{Kind: api.DFunc, Body: s})
		s[0].Else, s[1].Body = s, s
		ends(thread(s...), thread(s...))
		ends(slices.Repeat([]api.Decl{{Kind: kind, Name: "d", Type: "*e", Body: s}}, 1<<17)...)
		ends(slices.Repeat([]api.Decl{{Kind: kind, Pairs: slices.Repeat([]api.Pair{{}}, 1<<17)}}, 8)...)
	}
	wide, body := []api.Expr{{Kind: api.EName}}, []api.Stmt{{Kind: api.SVar}}
	for range 60 {
		wide = []api.Expr{{Kind: api.EBinary, Args: wide}, {Kind: api.EBinary, Args: wide}}
		body = []api.Stmt{{Kind: api.SIf, Body: body, Else: body}}
	}
	ends(thread(api.Stmt{Kind: api.SReturn, Exprs: wide}), thread(body...))
	name := strings.Repeat("n", 1<<22)
	ends(slices.Repeat([]api.Decl{{Kind: api.DFunc, Name: name, Type: "*" + name, Pairs: slices.Repeat([]api.Pair{{Name: name, Type: name}}, 1000), Body: slices.Repeat([]api.Stmt{{Kind: api.SVar, Name: name}}, 1000)}}, 1000)...)
}

// P1: what stands in so many parts that no text has them is told as wrong, so that nobody above reads on.
func TestTooGreat(t *testing.T) {
	p := api.Program{Decls: []api.Decl{thread(slices.Repeat([]api.Stmt{{Kind: api.SReturn}}, 1<<16)...)}}
	if tree.Right(p) {
		t.Fatal("right")
	}
	if x, diags := scope.Names(p); !equal(x, api.Table{}) || len(diags) != 1 || diags[0] != (api.Diag{Code: api.ErrTree}) {
		t.Error(x, diags)
	}
}
