package parse_test

import (
	"math/rand/v2"
	"reflect"
	"strconv"
	"strings"
	"testing"
	"unsafe"

	"portcullis/api"
	"portcullis/lex"
	"portcullis/parse"
	"portcullis/tree"
)

// here stands in a text of these tests ahead of the place that is wrong.
const here = "@"

// marked: a text without its mark, and where that stood; -1, if there was none.
func marked(s string) (string, int) {
	at := strings.Index(s, here)
	return strings.Replace(s, here, "", 1), at
}

// programs: what Program says of a text; the error is at its mark, or there is none.
func programs(t *testing.T, s string, want api.Errno) api.Program {
	t.Helper()
	text, at := marked(s)
	p, got, e := parse.Program(text)
	if e != want || got != max(at, 0) || e != api.OK && !reflect.DeepEqual(p, api.Program{}) {
		t.Errorf("%.300q: %d %d, want %d %d", s, got, e, at, want)
	}
	return p
}

// exprs: likewise, of Expr, and of the same text as a value, whose depth is 2 too.
func exprs(t *testing.T, s string, want api.Errno) api.Expr {
	t.Helper()
	text, at := marked(s)
	x, got, e := parse.Expr(text)
	if e != want || got != max(at, 0) || e != api.OK && !reflect.DeepEqual(x, api.Expr{}) {
		t.Errorf("%.300q: %d %d, want %d %d", s, got, e, at, want)
	}
	if at < len(text) { // Behind a value stands no end.
		programs(t, "thread t{return "+s+";}", want)
	}
	return x
}

// bare: a tree without its places.
func bare(p api.Program) api.Program {
	list := append([]api.Decl(nil), p.Decls...)
	for i := range list {
		list[i].At, list[i].Body = 0, bareStmts(list[i].Body)
	}
	return api.Program{Decls: list}
}

func bareStmts(list []api.Stmt) []api.Stmt {
	list = append([]api.Stmt(nil), list...)
	for i, s := range list {
		list[i].At, list[i].Exprs, list[i].Body, list[i].Else = 0, bareExprs(s.Exprs), bareStmts(s.Body), bareStmts(s.Else)
	}
	return list
}

func bareExprs(list []api.Expr) []api.Expr {
	list = append([]api.Expr(nil), list...)
	for i, e := range list {
		list[i].At, list[i].Args = 0, bareExprs(e.Args)
	}
	return list
}

// P4.1, P4.3: the tree of a text, with its places; it is right, and its own text gives it back.
func TestTrees(t *testing.T) {
	right := 0
	for seed := range uint64(3000) {
		m := newMaker(seed)
		want := m.program(8)
		p, at, e := parse.Program(string(m.text))
		if at != 0 || e != api.OK || !reflect.DeepEqual(p, want) {
			t.Fatalf("%q:\n%v %d %d, want\n%v", m.text, p, at, e, want)
		}
		s, e := tree.Show(want)
		if e == api.OK {
			right++
			if again, at, e := parse.Program(s); at != 0 || e != api.OK || !reflect.DeepEqual(bare(again), bare(want)) {
				t.Fatalf("%q: %v %d %d", s, again, at, e)
			}
		} else if spaced(t, string(m.text)) <= api.MaxText {
			t.Fatalf("%q: not right", m.text)
		}
	}
	if right < 2000 {
		t.Error("few right trees", right)
	}
}

// spaced: how long the text of a text's tokens is.
func spaced(t *testing.T, s string) int {
	tokens, _, e := lex.Tokens(s)
	if e != api.OK {
		t.Fatal(e)
	}
	size := len(tokens) - 1
	for _, k := range tokens {
		size += len(k.Text)
	}
	return size
}

// P4.2, P4.3: the same of an expression.
func TestExprTrees(t *testing.T) {
	for seed := range uint64(5000) {
		m := newMaker(seed)
		want := m.expr(2)
		x, at, e := parse.Expr(string(m.text))
		if at != 0 || e != api.OK || !reflect.DeepEqual(x, want) {
			t.Fatalf("%q:\n%v %d %d, want\n%v", m.text, x, at, e, want)
		}
		s, e := tree.ShowExpr(want)
		if e != api.OK {
			t.Fatalf("%q: not right", m.text)
		}
		if again, at, e := parse.Expr(s); at != 0 || e != api.OK || !reflect.DeepEqual(bareExprs([]api.Expr{again}), bareExprs([]api.Expr{want})) {
			t.Fatalf("%q: %v %d %d", s, again, at, e)
		}
	}
}

// P4.1: one tree written out, with its places.
func TestPlaces(t *testing.T) {
	s := "func f(x bool,y*s)[]int{set a[1].b=len(g[2:x])[0];}thread\nt{if(-true){}else{recv c v;}call r=f(new s);call f();return;return((!1)<=nil.p);}"
	name := func(name string, at int) api.Expr { return api.Expr{Kind: api.EName, Name: name, At: at} }
	num := func(n, at int) api.Expr { return api.Expr{Kind: api.EInt, Num: n, At: at} }
	at := func(part string, more int) int { return strings.Index(s, part) + more }
	set, unary, last := at("set a", 0), at("(-true", 0), at("((!1", 0)
	cut := api.Expr{Kind: api.ESlice, At: at("[2:x", 0), Args: []api.Expr{name("g", at("g[2", 0)), num(2, at("2:x", 0)), name("x", at("x])[", 0))}}
	want := api.Program{Decls: []api.Decl{
		{Kind: api.DFunc, Name: "f", At: 5, Type: "[]int", Pairs: []api.Pair{{Name: "x", Type: "bool"}, {Name: "y", Type: "*s"}}, Body: []api.Stmt{{Kind: api.SSet, At: set, Exprs: []api.Expr{
			{Kind: api.EField, Name: "b", At: set + 8, Args: []api.Expr{{Kind: api.EIndex, At: set + 5, Args: []api.Expr{name("a", set+4), num(1, set+6)}}}},
			{Kind: api.EIndex, At: at("[0]", 0), Args: []api.Expr{{Kind: api.ELen, At: at("len", 0), Args: []api.Expr{cut}}, num(0, at("0];", 0))}},
		}}}},
		{Kind: api.DThread, Name: "t", At: at("\nt", 1), Body: []api.Stmt{
			{Kind: api.SIf, At: at("if(", 0), Exprs: []api.Expr{{Kind: api.EUnary, Name: "-", At: unary, Args: []api.Expr{{Kind: api.EBool, Num: 1, At: unary + 2}}}}, Else: []api.Stmt{{Kind: api.SRecv, At: at("recv", 0), Name: "c", Type: "v"}}},
			{Kind: api.SCall, At: at("call r", 0), Name: "f", Type: "r", Exprs: []api.Expr{{Kind: api.ENew, Name: "s", At: at("new s", 0)}}},
			{Kind: api.SCall, At: at("call f", 0), Name: "f"},
			{Kind: api.SReturn, At: at("return;", 0)},
			{Kind: api.SReturn, At: at("return((", 0), Exprs: []api.Expr{{Kind: api.EBinary, Name: "<=", At: last, Args: []api.Expr{{Kind: api.EUnary, Name: "!", At: last + 1, Args: []api.Expr{num(1, last+3)}}, {Kind: api.EField, Name: "p", At: last + 10, Args: []api.Expr{{Kind: api.ENil, At: last + 7}}}}}}},
		}},
	}}
	if p, n, e := parse.Program(s); n != 0 || e != api.OK || !reflect.DeepEqual(p, want) {
		t.Errorf("%v %d %d, want\n%v", p, n, e, want)
	}
	for _, s := range []string{"", " ", "\n \n"} {
		programs(t, s, api.OK)
	}
}

// alphabet: every word and sign, a name and a number.
var alphabet = strings.Fields("bool call chan else false func if input int len lock make new nil out recv release return send set sink struct thread true unlock var while <= == != { } ( ) [ ] , ; . : = + - * / % < ! & | x 2")

// walk holds every text that goes on from one by so many tokens against the grammar, as long as its tokens can stand there.
func walk(t *testing.T, c chart, s string, more int, read func(string) (int, api.Errno)) {
	for _, word := range alphabet {
		text := strings.TrimPrefix(s+" "+word, " ")
		kind := api.TSign
		switch {
		case word == "2":
			kind = api.TNumber
		case lex.Word(word):
			kind = api.TWord
		case lex.Name(word):
			kind = api.TName
		}
		next, can := c.next(api.Token{Kind: kind, Text: word})
		wantAt, want := len(text), api.ErrToken
		if !can {
			wantAt = len(text) - len(word)
		} else if next.whole() {
			wantAt, want = 0, api.OK
		}
		if at, e := read(text); at != wantAt || e != want {
			t.Fatalf("%q: %d %d, want %d %d", text, at, e, wantAt, want)
		}
		if can && more > 1 {
			walk(t, next, text, more-1, read)
		}
	}
}

func readProgram(s string) (int, api.Errno) {
	_, at, e := parse.Program(s)
	return at, e
}

func readExpr(s string) (int, api.Errno) {
	_, at, e := parse.Expr(s)
	return at, e
}

// P4.1, P4.2: the first token that can't stand there, of all short texts that go on from these.
func TestWalks(t *testing.T) {
	r := newRules()
	for s, more := range map[string]int{
		"": 5, "lock x ;": 3, "chan x": 2, "struct x {": 6, "func x (": 5, "func x ( x int": 4, "func x ( )": 4, "func x ( ) [ ]": 3, "var x": 3,
		"thread x {": 4, "thread x { set": 4, "thread x { set x [ 2": 4, "thread x { set x [ 2 : 2 ]": 4, "thread x { if x {": 3, "thread x { if x { }": 4, "thread x { if x { } else { if x { } else {": 3, "thread x { while": 3,
		"thread x { call": 5, "thread x { call x = x (": 4, "thread x { call x ( x ,": 3, "thread x { var x": 4, "thread x { return": 4, "thread x { recv x": 3, "thread x { }": 2, "thread x { out x 2": 4,
	} {
		c := r.chart("PROGRAM")
		tokens, _, _ := lex.Tokens(s)
		for _, k := range tokens {
			c, _ = c.next(k)
		}
		walk(t, c, s, more, readProgram)
	}
	walk(t, r.chart("EXPR"), "", 5, readExpr)
}

// spoil: tokens of which one or a few were dropped, doubled, exchanged or set anew.
func (m *maker) spoil(tokens []string) []string {
	list := append([]string(nil), tokens...)
	for range 1 + m.IntN(2) {
		if len(list) < 2 {
			return append(list, alphabet[m.IntN(len(alphabet))])
		}
		i := m.IntN(len(list) - 1)
		switch m.IntN(5) {
		case 0:
			list = append(list[:i], list[i+1:]...)
		case 1:
			list = append(list[:i+1], list[i:]...)
		case 2:
			list[i], list[i+1] = list[i+1], list[i]
		case 3:
			list[i] = alphabet[m.IntN(len(alphabet))]
		case 4:
			list = list[:i]
		}
	}
	return list
}

// P4.1, P4.2: the first token that can't stand there, of texts that are nearly right.
func TestSpoilt(t *testing.T) {
	r := newRules()
	seen := map[api.Errno]int{}
	for seed := range uint64(6000) {
		m := newMaker(seed)
		start, read := "PROGRAM", readProgram
		if seed%3 == 0 {
			start, read = "EXPR", readExpr
			m.expr(2)
		} else {
			m.program(4)
		}
		tokens, _, _ := lex.Tokens(string(m.text))
		var words []string
		for _, k := range tokens {
			words = append(words, k.Text)
		}
		s := strings.Join(m.spoil(words), " ")
		tokens, _, e := lex.Tokens(s)
		if e != api.OK {
			t.Fatal(e)
		}
		at, e := read(s)
		seen[e]++
		if e == api.ErrMany || e == api.ErrNumber || e == api.ErrDeep {
			continue // The grammar knows no limits; TestLimits does.
		}
		if want := r.chart(start).wrong(tokens, len(s)); e == api.OK && want != -1 || e == api.ErrToken && at != want || e != api.OK && e != api.ErrToken {
			t.Fatalf("%q: %d %d, want %d", s, at, e, want)
		}
	}
	if seen[api.ErrToken] < 4000 || seen[api.OK] < 100 || seen[api.ErrToken]+seen[api.OK] < 5900 {
		t.Error(seen)
	}
}

// P4.1: tokens that can't stand where they do, and ends.
func TestTokens(t *testing.T) {
	for _, s := range []string{
		"@out", "lock@", "lock @if;", "lock l@", "lock l \n@", "@x", "@;", "@}", "lock l;@;", "lock @1;", "lock l@,", "lock l @m;",
		"chan c @x;", "chan c @;", "chan c@", "chan c @-1;", "chan c 1 @2;", "chan c 1;@;", "chan @2 2;", "input i @int;", "sink s @2;", "var g@;", "var g []@bool;", "var g [@int;", "var g [@2]int;", "var g *@int;", "var g *@*s;", "var g @s;", "var g int@=1;", "var g @nil;",
		"struct s@;", "struct s{a@;}", "struct s{a int@}", "struct s{a int@,b int}", "struct s{@;}", "struct s{a int;}@;", "struct s{a int;@", "struct @struct{}",
		"func f@{}", "func f(@,){}", "func f(a int,@){}", "func f(a@){}", "func f(a int@;b int){}", "func f(a int @b int){}", "func f(a @b){}", "func f()@;", "func f()@", "func f()int@;", "func f()@s{}", "func f() int @int{}", "func f(){@{}}", "func f(){}@;", "func f(){return;}@return;",
		"thread t@()", "thread t{@x=1;}", "thread t{@;}", "thread t{@else{}}", "thread t{@", "thread t{ \n@", "thread t{@thread u{}}", "thread t{}@}", "thread t{@chan c 1;}",
		"thread t{var x@=1;}", "thread t{var x int@;}", "thread t{var x int @1;}", "thread t{var x int=@;}", "thread t{var x int=1@}", "thread t{var x @y=1;}",
		"thread t{set x@;}", "thread t{set @=1;}", "thread t{set x=@;}", "thread t{set x=1@=2;}", "thread t{set 1@=2;}", "thread t{set true@=2;}", "thread t{set nil@=2;}", "thread t{set a[1:2]@=2;}", "thread t{set a[0][1:2]@=2;}", "thread t{set len(x)@=2;}", "thread t{set (-x)@=2;}", "thread t{set (x+y)@=2;}", "thread t{set new s@=2;}", "thread t{set make(2)@=2;}", "thread t{set release h@=2;}", "thread t{set 1@;}", "thread t{set 1@", "thread t{set @set=2;}",
		"thread t{if@{}}", "thread t{if x@;}", "thread t{if x{}else@;}", "thread t{if x{}else{@}}", "thread t{if x{}else{ \n@}}", "thread t{if x{}else{@", "thread t{if x{}else @if y{}}", "thread t{if x{}else{return;}@else{return;}}", "thread t{if x{}@;}", "thread t{while x{}@else{return;}}", "thread t{while x@}", "thread t{while@{}}",
		"thread t{lock @;}", "thread t{lock l@}", "thread t{lock l@.a;}", "thread t{unlock @1;}", "thread t{unlock l@,m;}", "thread t{send @1;}", "thread t{send c@;}", "thread t{recv c@;}", "thread t{recv c @1;}", "thread t{recv c v@.a;}", "thread t{recv c v @w;}", "thread t{out @1;}", "thread t{out o@;}", "thread t{out o @{}}", "thread t{out o 1 @2;}",
		"thread t{call@;}", "thread t{call f@;}", "thread t{call f(@,);}", "thread t{call f(1,@);}", "thread t{call f(1@;}", "thread t{call f(1 @2);}", "thread t{call x=@(1);}", "thread t{call x=f@;}", "thread t{call x=y@=f();}", "thread t{call f()@.a;}", "thread t{call f()@=x;}", "thread t{call f@.a();}",
		"thread t{return (a@);}", "thread t{return @);}", "thread t{return 1@,2;}", "thread t{return@}", "thread t{return 1@}", "thread t{return @-1;}", "thread t{return @!x;}",
	} {
		programs(t, s, api.ErrToken)
	}
}

// P4.1, P4.2: the same of expressions.
func TestExprTokens(t *testing.T) {
	for _, s := range []string{
		"@", " @", "\n \n@", "a @b", "a@;", "1 @2", "@)", "@]", "(@)", "(a@)", "(a+@)", "(a+b@", "(a+b@]", "(a+b@+c)", "(a @b)", "(a@!b)", "(a@=b)", "(a.@", "(-@", "(-a@-b)", "(-@-a)", "(!@!a)", "(@*a)", "(@!=a)", "(a@,b)", "@-1", "@!a", "@*a", "@[1]", "@[]int", "@int", "@bool", "@call", "@{", "@.a",
		"a.@1", "a.@", "a.@len", "a.@.b", "a[@]", "a[1@", "a[1:@]", "a[@:1]", "a[@:]", "a[1:2@:3]", "a[1@,2]", "a[1:2@)", "a[1]@(", "a@(", "a @a", "len @a", "len(@)", "len@", "len(a@,b)", "len(a@", "make(@)", "make@[1]", "make(1@,2)", "new@", "new @1", "new s@{", "new @int", "new s@(", "release@", "release @(", "release h@(", "nil @nil", "true@=", "1.@2",
	} {
		text, at := marked(s)
		if _, n, e := parse.Expr(text); n != at || e != api.ErrToken {
			t.Errorf("%q: %d %d", s, n, e)
		}
	}
	for _, s := range []string{"a.b[1][2:3].c", "1.a", "true[1]", "nil.a", "(-a).b", "(a+b)[1]", "len(a).b", "new s.a", "make(1)[0]", "release h.a", "a[b[c]]", "(1-(-1))", "((-1)-1)", "a[(!b):c.d]"} {
		exprs(t, s, api.OK)
	}
}

// P4.1: ErrMany, with the token that it stands at; a token that can't stand there is ErrToken ahead of it.
func TestMany(t *testing.T) {
	re := strings.Repeat
	for _, word := range []string{"lock @l;", "chan @c 1;", "struct @s{}", "var @v int;", "input @i;", "sink @o;", "func @f(){}", "thread @t{}"} {
		plain, _ := marked(word)
		programs(t, re(plain, 64), api.OK)
		programs(t, re("lock l;", 64)+word, api.ErrMany)
		programs(t, re("lock l;", 63)+plain+word+word[:3], api.ErrMany)
		programs(t, re(plain, 64)+strings.Fields(word)[0]+"@", api.ErrToken)
	}
	programs(t, re("lock l;", 64)+"lock @1", api.ErrToken)
	programs(t, re("lock l;", 64)+"@lok l;", api.ErrToken)
	programs(t, re("lock l;", 64)+"lock @l", api.ErrMany)
	programs(t, re("lock l;", 64)+"chan @l 9;", api.ErrMany)

	programs(t, "struct s{"+re("a int;", 8)+"}struct r{"+re("b *s;", 8)+"}", api.OK)
	programs(t, "struct s{"+re("a int;", 8)+"@a int;}", api.ErrMany)
	programs(t, "struct s{"+re("a int;", 8)+"@a", api.ErrMany)
	programs(t, "struct s{"+re("a int;", 8)+"@1;}", api.ErrToken)
	programs(t, "struct s{"+re("a int;", 8)+"@", api.ErrToken)

	programs(t, "func f(a int,b int,c int,d int){}func g(a int,b int,c int,d int)int{}", api.OK)
	programs(t, "func f(a int,b int,c int,d int,@e int){}", api.ErrMany)
	programs(t, "func f(a int,b int,c int,d int,@e;", api.ErrMany)
	programs(t, "func f(a int,b int,c int,d int,@){}", api.ErrToken)
	programs(t, "func f(a int,b int,c int,d int@;e int){}", api.ErrToken)

	for _, call := range []string{"call f(", "call x=f("} {
		programs(t, "thread t{"+call+"1,2,3,4);"+call+"1,2,3,4);}", api.OK)
		for _, arg := range []string{"5", "x", "true", "false", "nil", "(", "len", "new", "make", "release", "x.a", "(-1)"} {
			programs(t, "thread t{"+call+"1,2,3,4,@"+arg+");}", api.ErrMany)
		}
		for _, arg := range []string{")", ",", ";", "-1", "!x", "[1]", "int", "call f()", ""} {
			programs(t, "thread t{"+call+"1,2,3,4,@"+arg, api.ErrToken)
		}
	}
}

// P4.1: a channel's number.
func TestNumber(t *testing.T) {
	for n := range 12 {
		s := strconv.Itoa(n)
		if n >= 1 && n <= 4 {
			if p := programs(t, "chan c "+s+";", api.OK); p.Decls[0].Num != n {
				t.Error(p)
			}
			continue
		}
		programs(t, "chan c @"+s+";", api.ErrNumber)
		programs(t, "lock l;chan c @"+s, api.ErrNumber)
	}
	programs(t, "chan c @999999999999999999;", api.ErrNumber)
	programs(t, "chan c @1000000000000000000;", api.ErrNumber) // layer 2's
	programs(t, "chan c @04;", api.ErrNumber)
	programs(t, "chan c 4@", api.ErrToken)
	if x := exprs(t, "999999999999999999", api.OK); x.Num != 999999999999999999 {
		t.Error(x)
	}
	exprs(t, "@1000000000000000000", api.ErrNumber)
}

// P4.1, P4.2: an error of layer 2 comes ahead of all, wherever it stands.
func TestLexErrors(t *testing.T) {
	re := strings.Repeat
	programs(t, "thread t { return @#; }", api.ErrByte)
	programs(t, "out out x @01", api.ErrNumber)
	programs(t, "} "+here+re("a", 17), api.ErrLong)
	programs(t, re(";", 4096)+" @;", api.ErrLong)
	programs(t, "@"+re(";", 16385), api.ErrLong)
	programs(t, "@"+re("#", 16385), api.ErrLong)
	programs(t, re("lock l;", 65)+"@A", api.ErrByte)
	programs(t, re(" ", 16384), api.OK)
	exprs(t, "x y @\t", api.ErrByte)
	exprs(t, re("(-", 30)+"@00", api.ErrNumber)
	if _, n, e := parse.Expr(re("a ", 8193)); n != 0 || e != api.ErrLong {
		t.Error(n, e)
	}
	if _, n, e := parse.Expr("a" + re(" ", 16383)); n != 0 || e != api.OK {
		t.Error(n, e)
	}
}

// nested: a text around which another one stands so often, at its mark; what is too deep is marked, if there is something, the outermost expression having deep. In the text around stands # ahead of the first part that is one deeper, if that isn't the one at the mark.
func nested(around string, n, deep int) string {
	first, open, shut := opened(around)
	room := api.MaxDeep - deep
	if n <= room {
		return strings.Repeat(open, n) + "1" + strings.Repeat(shut, n)
	}
	return strings.Repeat(open, room) + first + here + strings.TrimPrefix(open, first) + strings.Repeat(open, n-room-1) + "1" + strings.Repeat(shut, n)
}

// opened: what of a text stands ahead of its first part that is one deeper, ahead of its mark, and behind it.
func opened(around string) (first, open, shut string) {
	open, shut, _ = strings.Cut(around, here)
	first, _, _ = strings.Cut(open, "#")
	return first, strings.Replace(open, "#", "", 1), shut
}

// P4.1, P4.2: expressions that are too deep, at the first token of the first one that is.
func TestDeepExprs(t *testing.T) {
	for _, around := range []string{"(-@)", "(!@)", "(@+1)", "(@ <= x)", "(#1-@)", "(#x.f%@)", "len(@)", "make(@)", "x[@]", "x[@:2]", "x[#1:@]", "x.f[@]", "x[#1][@].f", "(-@).f", "(-@)[1]", "(-@)[1:2]", "len(@)[1].f"} {
		for n := range 40 {
			want := api.OK
			if n > 22 {
				want = api.ErrDeep
			}
			exprs(t, nested(around, n, 2), want)
		}
		// A token with which no expression begins is ErrToken there.
		first, open, _ := opened(around)
		for _, s := range []string{"@", "@)", "@]", "@;", "@.f", "@*1", "@if"} {
			text, at := marked(strings.Repeat(open, 22) + first + s)
			if _, n, e := parse.Expr(text); n != at || e != api.ErrToken {
				t.Error(around, s, n, e)
			}
		}
	}
	for _, first := range []string{"1", "x", "true", "false", "nil", "len", "(", "new", "make", "release", "x.f"} {
		exprs(t, strings.Repeat("(-", 23)+"@"+first, api.ErrDeep)
	}
	exprs(t, strings.Repeat("(", 23)+"@"+strings.Repeat("(", 4000), api.ErrDeep)
	exprs(t, "("+strings.Repeat("(-", 21)+"x"+strings.Repeat(")", 21)+"+"+strings.Repeat("(-", 22)+"@x", api.ErrDeep)
}

// P4.1: every expression of a statement is one deeper than its block, and so is a block in it.
func TestDeepStmts(t *testing.T) {
	opens := []string{"while 1{", "if 1{", "if 1{}else{"}
	for i, s := range []string{"var v int=@;", "set @.a=1;", "set #x=@;", "if @{}", "while @{}", "send c @;", "out o @;", "call f(@);", "call x=f(#1,2,3,@);", "return @;"} {
		first, before, after := opened(s)
		for blocks := 1; blocks <= 24; blocks++ {
			open, shut := "thread t{", strings.Repeat("}", blocks)
			for b := range blocks - 1 {
				open += opens[(b+i)%3]
			}
			if blocks == 24 {
				programs(t, open+first+here+strings.TrimPrefix(before, first)+"1"+after+shut, api.ErrDeep)
				programs(t, open+first+here+shut, api.ErrToken)
				programs(t, open+first+here, api.ErrToken)
				continue
			}
			programs(t, open+before+nested("(-@)", 23-blocks, blocks+1)+after+shut, api.OK)
			programs(t, open+before+nested("(-@)", 24-blocks, blocks+1)+after+shut, api.ErrDeep)
		}
	}
	for _, open := range opens {
		// 24 blocks within each other; of the 25th the condition is too deep.
		open = "func f()int{" + strings.Repeat(open, 23)
		programs(t, open+"lock l;unlock l;recv c x;call f();call x=f();return;"+strings.Repeat("}", 24), api.OK)
		programs(t, open+"while @1{", api.ErrDeep)
		programs(t, open+"if @x{", api.ErrDeep)
		programs(t, open+"call x=f(@1,2,3,4,5);", api.ErrDeep)
	}
}

// P4.1: fields, indexes and cuts one behind the other, at most eight.
func TestChains(t *testing.T) {
	re := strings.Repeat
	for _, first := range []string{"x", "1", "nil", "true", "(-x)", "(x+y)", "len(x)", "new s", "make(1)", "release h"} {
		for _, links := range []string{".f.f.f.f.f.f.f.f", "[1][1][1][1][1][1][1][1]", "[1:2][1:2][1:2][1:2][1:2][1:2][1:2][1:2]", ".f[1].f[1:2].f[1].f[1:2]", "[x.a][y[1]].f[1:z.a.b].f.f.f[(-x.a)]"} {
			exprs(t, first+links, api.OK)
			for _, ninth := range []string{".f", "[1]", "[1:2]", ".1", "[]", "[", ".", ".f.f"} {
				exprs(t, first+links+here+ninth, api.ErrDeep)
			}
			exprs(t, first+links+"@(", api.ErrToken)
		}
	}
	eight := "x" + re(".f", 8)
	// Within brackets a new chain begins.
	for _, s := range []string{"y.f.f.f.f.f.f.f[#]", "y.f.f.f.f.f.f.f[#:#]", "(-#).f.f.f.f.f.f.f.f", "(#+#).f.f.f.f.f.f.f.f", "len(#).f.f.f.f.f.f.f.f", "make(#)[#][#:#].f"} {
		exprs(t, strings.ReplaceAll(s, "#", eight), api.OK)
		exprs(t, strings.ReplaceAll(strings.Replace(s, "#", eight+"@.f", 1), "#", eight), api.ErrDeep)
		last := strings.LastIndex(s, "#")
		exprs(t, strings.ReplaceAll(s[:last], "#", eight)+eight+"@[1]"+s[last+1:], api.ErrDeep)
	}
	programs(t, "thread t{set "+eight+"="+eight+";}", api.OK)
	programs(t, "thread t{set "+eight+"@.f="+eight+";}", api.ErrDeep)
	programs(t, "thread t{set x"+re(".f", 7)+"[1:2]@=1;}", api.ErrToken)
	programs(t, "thread t{set x"+re(".f", 7)+"[1:2]@.f=1;}", api.ErrDeep)
	programs(t, "thread t{set x"+re(".f", 6)+"[1:2].f=1;}", api.OK)
	// The chain's parts are all as deep as its first one.
	exprs(t, re("(-", 22)+eight+re(")", 22), api.OK)
	exprs(t, re("(-", 21)+"x[1][2]"+re(")", 21), api.OK)
	exprs(t, re("(-", 22)+"x[@1]", api.ErrDeep)
	exprs(t, re("(-", 22)+"x.f[@1:2]", api.ErrDeep)
}

// P4.3: the greatest texts; the tree of one is right, unless its text is too long.
func TestGreat(t *testing.T) {
	re := strings.Repeat
	few := "thread t{" + re("lock l;", 1364) + "}" // of 4,096 tokens
	if p := programs(t, few, api.OK); len(p.Decls[0].Body) != 1364 || !tree.Right(p) {
		t.Error("not right")
	}
	programs(t, few+here+";", api.ErrLong)
	stmt := "out o " + re("n", 16) + ";"
	tight := "thread t{" + re(stmt, 711) + "}"
	p := programs(t, tight, api.OK)
	if len(p.Decls) != 1 || len(p.Decls[0].Body) != 711 || tree.Right(p) || spaced(t, tight) <= api.MaxText {
		t.Error("the tree of a text that is too long", len(p.Decls))
	}
	tight = "thread t{" + re(stmt, 654) + "}"
	if p := programs(t, tight, api.OK); !tree.Right(p) || spaced(t, tight) > api.MaxText {
		t.Error("not right", spaced(t, tight))
	}
}

// P1, P2, P4.3: all bytes; an answer hangs on its text alone.
func TestAnyBytes(t *testing.T) {
	m := rand.New(rand.NewPCG(1, 2))
	for range 3000 {
		b := make([]byte, m.IntN(60))
		for i := range b {
			b[i] = byte(m.IntN(256))
		}
		s := string(b)
		at, e := readProgram(s)
		atExpr, eExpr := readExpr(s)
		_, want, lexed := lex.Tokens(s)
		if lexed != api.OK && (at != want || e != lexed || atExpr != want || eExpr != lexed) || at < 0 || at > len(s) {
			t.Errorf("%q: %d %d, %d %d", s, at, e, atExpr, eExpr)
		}
	}
	for _, word := range alphabet {
		for _, s := range []string{word, strings.Repeat(word+" ", 2000), strings.Repeat("( "+word+" ", 1000)} {
			readProgram(s)
			readExpr(s)
		}
	}
	want := programs(t, "thread t{return(a+b);}", api.OK)
	for range 3 {
		programs(t, "thread t{return(a@);}", api.ErrToken)
		if got := programs(t, "thread t{return(a+b);}", api.OK); !reflect.DeepEqual(got, want) {
			t.Error(got)
		}
	}
}

// span is where a list or a text lies in memory, with its spare room.
type span struct{ from, to uintptr }

func spanOf[T any](list []T) span {
	var one T
	from := uintptr(unsafe.Pointer(unsafe.SliceData(list)))
	return span{from, from + uintptr(cap(list))*unsafe.Sizeof(one)}
}

func spanOfText(s string) span {
	from := uintptr(unsafe.Pointer(unsafe.StringData(s)))
	return span{from, from + uintptr(len(s))}
}

func (a span) shares(b span) bool { return a.from < b.to && b.from < a.to }

// parts: the lists of a tree, and its texts.
func parts(p api.Program) (lists, texts []span) {
	var exprs func(list []api.Expr)
	exprs = func(list []api.Expr) {
		lists = append(lists, spanOf(list))
		for _, e := range list {
			texts = append(texts, spanOfText(e.Name))
			exprs(e.Args)
		}
	}
	var stmts func(list []api.Stmt)
	stmts = func(list []api.Stmt) {
		lists = append(lists, spanOf(list))
		for _, s := range list {
			texts = append(texts, spanOfText(s.Name), spanOfText(s.Type))
			exprs(s.Exprs)
			stmts(s.Body)
			stmts(s.Else)
		}
	}
	lists = append(lists, spanOf(p.Decls))
	for _, d := range p.Decls {
		texts = append(texts, spanOfText(d.Name), spanOfText(d.Type))
		lists = append(lists, spanOf(d.Pairs))
		for _, f := range d.Pairs {
			texts = append(texts, spanOfText(f.Name), spanOfText(f.Type))
		}
		stmts(d.Body)
	}
	return lists, texts
}

// P4.3: what is answered is new memory.
func TestNewMemory(t *testing.T) {
	for seed := range uint64(60) {
		m := newMaker(seed)
		want := m.program(6)
		s := string(m.text)
		a, _, _ := parse.Program(s)
		b, _, _ := parse.Program(s)
		lists, texts := parts(a)
		others, _ := parts(b)
		for _, x := range texts {
			if x.shares(spanOfText(s)) {
				t.Error("a name keeps the text")
			}
		}
		for i, x := range lists {
			for _, y := range lists[:i] {
				if x.shares(y) {
					t.Fatal("two lists share memory")
				}
			}
			for _, y := range others {
				if x.shares(y) {
					t.Fatal("two answers share memory")
				}
			}
		}
		for i := range a.Decls {
			a.Decls[i] = api.Decl{Kind: -1}
		}
		if !reflect.DeepEqual(b, want) {
			t.Fatal("two answers share memory")
		}
	}
}
