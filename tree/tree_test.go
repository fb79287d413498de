package tree_test

import (
	"reflect"
	"slices"
	"strconv"
	"strings"
	"testing"
	"unsafe"

	"portcullis/api"
	"portcullis/lex"
	"portcullis/tree"
)

func num(n int) api.Expr { return api.Expr{Kind: api.EInt, Num: n} }

func name(s string) api.Expr { return api.Expr{Kind: api.EName, Name: s} }

func expr(kind int, name string, args ...api.Expr) api.Expr {
	return api.Expr{Kind: kind, Name: name, Args: args}
}

func out(e api.Expr) api.Stmt { return api.Stmt{Kind: api.SOut, Name: "o", Exprs: []api.Expr{e}} }

func lock(s string) api.Stmt { return api.Stmt{Kind: api.SLock, Name: s} }

func thread(list ...api.Stmt) api.Program {
	return decls(api.Decl{Kind: api.DThread, Name: "t", Body: list})
}

func decls(list ...api.Decl) api.Program { return api.Program{Decls: list} }

// shows: a program's text is this one; "no" stands for a tree that isn't right.
func shows(t *testing.T, p api.Program, want string) {
	t.Helper()
	e := api.OK
	if want == "no" {
		want, e = "", api.ErrTree
	}
	if s, got := tree.Show(p); s != want || got != e {
		t.Errorf("%.300v:\n%.300q %d, want\n%.300q %d", p, s, got, want, e)
	}
	if tree.Right(p) != (e == api.OK) {
		t.Errorf("%.300v: Right isn't %v", p, e == api.OK)
	}
}

// showsExpr: an expression's text is this one, alone and as a value.
func showsExpr(t *testing.T, e api.Expr, want string) {
	t.Helper()
	code, whole := api.OK, "thread t { out o "+want+" ; }"
	if want == "no" {
		want, whole, code = "", "no", api.ErrTree
	}
	if s, got := tree.ShowExpr(e); s != want || got != code {
		t.Errorf("%.300v:\n%.300q %d, want\n%.300q %d", e, s, got, want, code)
	}
	shows(t, thread(out(e)), whole)
}

// texts: every row of one text of each column.
func texts(columns [][]string, tell func(row []string)) {
	if len(columns) == 0 {
		tell(nil)
		return
	}
	last := len(columns) - 1
	texts(columns[:last], func(row []string) {
		for _, s := range columns[last] {
			tell(append(slices.Clip(row), s))
		}
	})
}

// like: is s of this sort?
func like(s, sort string) bool {
	switch sort {
	case "":
		return s == ""
	case "name":
		return s == "a" || s == "lens"
	case "local":
		return s == "" || s == "a" || s == "lens"
	case "type":
		return s == "int" || s == "bool" || s == "[]int" || s == "*a" || s == "*lens"
	case "result":
		return s == "" || like(s, "type")
	case "unary":
		return s == "-" || s == "!"
	case "binary":
		return slices.Contains(strings.Fields("+ - * / % & | < <= == !="), s)
	}
	return slices.Contains(strings.Split(sort, " "), s)
}

var samples = strings.Split(",a,lens,len,A,1,-,!,+,*,/,%,&,|,<,<=,==,!=,=,>,- +,a b, a,a ,int,bool,[]int,[ ] int,[]bool,[]*a,*a,*lens,*len,*,* a,**a,*int,nil,true", ",")

// P3.1: each kind of expression, with all that may and may not stand in its fields.
func TestExprs(t *testing.T) {
	forms := map[int]struct {
		name, num string
		text      []string // N: the name, #: the number, else what stands around the args
	}{
		api.EInt: {"", "0 1 2 7 999999999999999999", []string{"#"}}, api.EBool: {"", "0 1", []string{"B"}}, api.ENil: {"", "0", []string{"nil"}}, api.EName: {"name", "0", []string{"N"}},
		api.EField: {"name", "0", []string{"", " . N"}}, api.EIndex: {"", "0", []string{"", " [ ", " ]"}}, api.ESlice: {"", "0", []string{"", " [ ", " : ", " ]"}}, api.ELen: {"", "0", []string{"len ( ", " )"}},
		api.EUnary: {"unary", "0", []string{"( N ", " )"}}, api.EBinary: {"binary", "0", []string{"( ", " N ", " )"}}, api.ENew: {"name", "0", []string{"new N"}}, api.EMake: {"", "0", []string{"make ( ", " )"}}, api.ERelease: {"name", "0", []string{"release N"}},
	}
	args := []api.Expr{name("x"), num(3), {Kind: api.ENil}, name("w")}
	for kind := -1; kind < 16; kind++ {
		f, known := forms[kind]
		for _, s := range samples {
			for _, n := range []int{0, 1, 2, 7, -1, 999999999999999999, 1000000000000000000, -1 << 63, 1<<63 - 1} {
				for count := range 5 {
					digits := strconv.Itoa(n)
					want := "no"
					if known && like(s, f.name) && like(digits, f.num) && count == len(f.text)-1 {
						with := strings.NewReplacer("N", s, "#", digits, "B", map[int]string{0: "false", 1: "true"}[n])
						want = with.Replace(f.text[0])
						for i, behind := range f.text[1:] {
							want += []string{"x", "3", "nil"}[i] + with.Replace(behind)
						}
					}
					showsExpr(t, api.Expr{Kind: kind, At: n, Name: s, Num: n, Args: args[:count]}, want)
				}
			}
		}
	}
}

// P3.1: each kind of statement, with all that may and may not stand in its fields.
func TestStmts(t *testing.T) {
	forms := map[int]struct {
		name, types, exprs, body, other string
		text                            func(s, typ string, e []string, body, other string) string
	}{
		api.SVar: {"name", "type", "1", "0", "0", func(s, typ string, e []string, _, _ string) string {
			return "var " + s + " " + typ + " = " + e[0] + " ;"
		}},
		api.SSet:    {"", "", "2", "0", "0", func(_, _ string, e []string, _, _ string) string { return "set " + e[0] + " = " + e[1] + " ;" }},
		api.SIf:     {"", "", "1", "0 1 2", "0", func(_, _ string, e []string, body, _ string) string { return "if " + e[0] + " {" + body + " }" }},
		api.SWhile:  {"", "", "1", "0 1 2", "0", func(_, _ string, e []string, body, _ string) string { return "while " + e[0] + " {" + body + " }" }},
		api.SLock:   {"name", "", "0", "0", "0", func(s, _ string, _ []string, _, _ string) string { return "lock " + s + " ;" }},
		api.SUnlock: {"name", "", "0", "0", "0", func(s, _ string, _ []string, _, _ string) string { return "unlock " + s + " ;" }},
		api.SSend:   {"name", "", "1", "0", "0", func(s, _ string, e []string, _, _ string) string { return "send " + s + " " + e[0] + " ;" }},
		api.SRecv:   {"name", "name", "0", "0", "0", func(s, local string, _ []string, _, _ string) string { return "recv " + s + " " + local + " ;" }},
		api.SOut:    {"name", "", "1", "0", "0", func(s, _ string, e []string, _, _ string) string { return "out " + s + " " + e[0] + " ;" }},
		api.SCall: {"name", "local", "0 1 2 3 4", "0", "0", func(s, local string, e []string, _, _ string) string {
			return strings.ReplaceAll("call "+strings.TrimPrefix(local+" = ", " = ")+s+" ( "+strings.Join(e, " , ")+" ) ;", "(  )", "( )")
		}},
		api.SReturn: {"", "", "0 1", "0", "0", func(_, _ string, e []string, _, _ string) string {
			return strings.Join(append(append([]string{"return"}, e...), ";"), " ")
		}},
	}
	other := forms[api.SIf]
	other.other = "1 2"
	other.text = func(_, _ string, e []string, body, other string) string {
		return "if " + e[0] + " {" + body + " } else {" + other + " }"
	}
	// At the place of a type a name has no blank before it.
	shown := strings.NewReplacer("[]", "[ ] ", "*", "* ")
	exprs := []api.Expr{name("x"), num(3), name("y"), num(4), name("z"), num(5)}
	exprTexts := strings.Fields("x 3 y 4 z 5")
	body := []api.Stmt{lock("l"), {Kind: api.SReturn}}
	bodyTexts := []string{"", " lock l ;", " lock l ; return ;"}
	for kind := -1; kind < 14; kind++ {
		form := forms[kind]
		texts([][]string{samples, samples, strings.Fields("0 1 2 3 4 5 6"), strings.Fields("0 1 2"), strings.Fields("0 1 2")}, func(row []string) {
			exprCount, bodyCount, otherCount := int(row[2][0]-'0'), int(row[3][0]-'0'), int(row[4][0]-'0')
			f := form
			if kind == api.SIf && otherCount > 0 {
				f = other
			}
			want := "no"
			if f.text != nil && like(row[0], f.name) && like(row[1], f.types) && like(row[2], f.exprs) && like(row[3], f.body) && like(row[4], f.other) {
				want = "thread t { " + f.text(row[0], shown.Replace(row[1]), exprTexts[:exprCount], bodyTexts[bodyCount], bodyTexts[otherCount]) + " }"
			}
			s := api.Stmt{Kind: kind, At: bodyCount, Name: row[0], Type: row[1], Exprs: exprs[:exprCount], Body: body[:bodyCount], Else: body[:otherCount]}
			if got, e := tree.Show(thread(s)); want == "no" && (got != "" || e != api.ErrTree) || want != "no" && (got != want || e != api.OK) {
				t.Fatalf("%v: %q %d, want %q", s, got, e, want)
			}
		})
	}
}

// P3.1: what can be set.
func TestPlaces(t *testing.T) {
	x, two := name("x"), num(2)
	for _, c := range []struct {
		place api.Expr
		want  string
	}{
		{x, "x"}, {expr(api.EField, "f", x), "x . f"}, {expr(api.EIndex, "", x, two), "x [ 2 ]"}, {expr(api.EField, "f", expr(api.ENew, "s")), "new s . f"}, {expr(api.EIndex, "", expr(api.ESlice, "", x, two, two), two), "x [ 2 : 2 ] [ 2 ]"},
		{two, "no"}, {api.Expr{Kind: api.EBool}, "no"}, {api.Expr{Kind: api.ENil}, "no"}, {expr(api.ESlice, "", x, two, two), "no"}, {expr(api.ELen, "", x), "no"}, {expr(api.EUnary, "-", x), "no"}, {expr(api.EBinary, "+", x, x), "no"}, {expr(api.ENew, "s"), "no"}, {expr(api.EMake, "", two), "no"}, {expr(api.ERelease, "h"), "no"}, {name("set"), "no"}, {expr(api.EField, "f"), "no"}, {expr(0, "x"), "no"}, {expr(14, "x"), "no"},
	} {
		want := "no"
		if c.want != "no" {
			want = "thread t { set " + c.want + " = release h ; }"
		}
		shows(t, thread(api.Stmt{Kind: api.SSet, Exprs: []api.Expr{c.place, expr(api.ERelease, "h")}}), want)
	}
}

// P3.1: each kind of declaration, with all that may and may not stand in its fields.
func TestDecls(t *testing.T) {
	forms := map[int]struct {
		num, types, pairs, body string
		text                    func(s, num, typ string, pairs []string, body string) string
	}{
		api.DLock: {"0", "", "0", "0", func(s, _, _ string, _ []string, _ string) string { return "lock " + s + " ;" }},
		api.DChan: {"1 2 3 4", "", "0", "0", func(s, num, _ string, _ []string, _ string) string { return "chan " + s + " " + num + " ;" }},
		api.DStruct: {"0", "", "0 1 2 3 4 5 6 7 8", "0", func(s, _, _ string, pairs []string, _ string) string {
			return "struct " + s + " { " + joined(pairs, "", " ; ") + "}"
		}},
		api.DVar:   {"0", "type", "0", "0", func(s, _, typ string, _ []string, _ string) string { return "var " + s + " " + typ + " ;" }},
		api.DInput: {"0", "", "0", "0", func(s, _, _ string, _ []string, _ string) string { return "input " + s + " ;" }},
		api.DSink:  {"0", "", "0", "0", func(s, _, _ string, _ []string, _ string) string { return "sink " + s + " ;" }},
		api.DFunc: {"0", "result", "0 1 2 3 4", "0 1", func(s, _, typ string, pairs []string, body string) string {
			return "func " + s + " ( " + joined(pairs, " , ", " ") + ") " + strings.TrimPrefix(typ+" ", " ") + body
		}},
		api.DThread: {"0", "", "0", "0 1", func(s, _, _ string, _ []string, body string) string { return "thread " + s + " " + body }},
	}
	shown := strings.NewReplacer("[]", "[ ] ", "*", "* ")
	var pairs []api.Pair
	var pairTexts []string
	for i := range 10 {
		s, typ := "p"+strconv.Itoa(i), []string{"int", "bool", "[]int", "*s", "*p1"}[i%5]
		pairs = append(pairs, api.Pair{Name: s, Type: typ})
		pairTexts = append(pairTexts, s+" "+shown.Replace(typ))
	}
	bodies := [][]api.Stmt{{}, {out(num(1))}}
	for kind := -1; kind < 11; kind++ {
		f := forms[kind]
		texts([][]string{samples, strings.Fields("0 1 2 3 4 5 -1"), samples, strings.Fields("0 1 2 3 4 5 6 7 8 9"), strings.Fields("0 1")}, func(row []string) {
			places, _ := strconv.Atoi(row[1])
			count, body := int(row[3][0]-'0'), int(row[4][0]-'0')
			want := "no"
			if f.text != nil && like(row[0], "name") && like(row[1], f.num) && like(row[2], f.types) && like(row[3], f.pairs) && like(row[4], f.body) {
				want = f.text(row[0], row[1], shown.Replace(row[2]), pairTexts[:count], []string{"{ }", "{ out o 1 ; }"}[body])
			}
			d := api.Decl{Kind: kind, At: -places, Num: places, Name: row[0], Type: row[2], Pairs: pairs[:count], Body: bodies[body]}
			if got, e := tree.Show(decls(d)); want == "no" && (got != "" || e != api.ErrTree) || want != "no" && (got != want || e != api.OK) {
				t.Fatalf("%v: %q %d, want %q", d, got, e, want)
			}
		})
	}
}

// joined: the texts with one between each two, and one behind them, if there are some.
func joined(list []string, between, behind string) string {
	if between == "" {
		between = behind
	}
	if len(list) == 0 {
		return ""
	}
	return strings.Join(list, between) + behind
}

// P3.1: a field's and a parameter's name and type.
func TestPairs(t *testing.T) {
	for _, s := range samples {
		for _, typ := range samples {
			p := []api.Pair{{Name: "x", Type: "bool"}, {Name: s, Type: typ}}
			fields, params := "no", "no"
			if like(s, "name") && like(typ, "type") {
				shown := s + " " + tree.ShowType(typ)
				fields, params = "struct s { x bool ; "+shown+" ; }", "func f ( x bool , "+shown+" ) { }"
			}
			shows(t, decls(api.Decl{Kind: api.DStruct, Name: "s", Pairs: p}), fields)
			shows(t, decls(api.Decl{Kind: api.DFunc, Name: "f", Pairs: p}), params)
		}
	}
}

// P3.1: ShowType.
func TestTypes(t *testing.T) {
	long := strings.Repeat("n", 16)
	for s, want := range map[string]string{
		"int": "int", "bool": "bool", "[]int": "[ ] int", "*a": "* a", "*lens": "* lens", "*" + long: "* " + long, "*a_9": "* a_9",
		"*" + long + "n": "", "*if": "", "*int": "", "*": "", "": "", "a": "", "[ ] int": "", "* a": "", "[]": "", "[]bool": "", "[][]int": "", "[]*a": "", "**a": "", "*[]int": "", "nil": "", "int ": "", " int": "", "Int": "", "ints": "", "int\x00": "", "*a ": "", "*A": "", "*1": "", "*é": "", "\xff": "", strings.Repeat("*", 1<<20): "", "*" + strings.Repeat("a", 1<<20): "",
	} {
		if got := tree.ShowType(s); got != want {
			t.Errorf("%.30q: %q, want %q", s, got, want)
		}
	}
}

// P3.1: names are names everywhere, of at most 16 bytes, and no words.
func TestNames(t *testing.T) {
	long := strings.Repeat("n", 16)
	places := []func(s string) api.Program{
		func(s string) api.Program { return decls(api.Decl{Kind: api.DVar, Name: "v", Type: "*" + s}) },
		func(s string) api.Program { return decls(api.Decl{Kind: api.DFunc, Name: "f", Type: "*" + s}) },
		func(s string) api.Program {
			return decls(api.Decl{Kind: api.DStruct, Name: "s", Pairs: []api.Pair{{Name: s, Type: "int"}}})
		},
		func(s string) api.Program {
			return decls(api.Decl{Kind: api.DFunc, Name: "f", Pairs: []api.Pair{{Name: s, Type: "int"}}})
		},
		func(s string) api.Program {
			return decls(api.Decl{Kind: api.DStruct, Name: "s", Pairs: []api.Pair{{Name: "x", Type: "*" + s}}})
		},
		func(s string) api.Program {
			return thread(api.Stmt{Kind: api.SVar, Name: "x", Type: "*" + s, Exprs: []api.Expr{num(1)}})
		},
		func(s string) api.Program {
			return thread(api.Stmt{Kind: api.SVar, Name: s, Type: "int", Exprs: []api.Expr{num(1)}})
		},
		func(s string) api.Program { return thread(api.Stmt{Kind: api.SRecv, Name: "c", Type: s}) },
		func(s string) api.Program { return thread(api.Stmt{Kind: api.SRecv, Name: s, Type: "c"}) },
		func(s string) api.Program { return thread(api.Stmt{Kind: api.SCall, Name: "c", Type: s}) },
		func(s string) api.Program { return thread(api.Stmt{Kind: api.SCall, Name: s, Type: "c"}) },
		func(s string) api.Program { return thread(api.Stmt{Kind: api.SCall, Name: s}) },
		func(s string) api.Program {
			return thread(api.Stmt{Kind: api.SOut, Name: s, Exprs: []api.Expr{num(1)}})
		},
		func(s string) api.Program {
			return thread(api.Stmt{Kind: api.SSend, Name: s, Exprs: []api.Expr{num(1)}})
		},
		func(s string) api.Program { return thread(lock(s)) },
		func(s string) api.Program { return thread(api.Stmt{Kind: api.SUnlock, Name: s}) },
		func(s string) api.Program { return thread(out(expr(api.EField, s, name("x")))) },
		func(s string) api.Program { return thread(out(expr(api.EField, "x", name(s)))) },
		func(s string) api.Program { return thread(out(expr(api.ENew, s))) },
		func(s string) api.Program { return thread(out(expr(api.ERelease, s))) },
	}
	for kind := api.DLock; kind <= api.DThread; kind++ {
		places = append(places, func(s string) api.Program {
			return decls(api.Decl{Kind: kind, Name: s, Num: map[int]int{api.DChan: 1}[kind], Type: map[int]string{api.DVar: "int"}[kind]})
		})
	}
	for i, place := range places {
		for s, want := range map[string]bool{"a": true, long: true, "a_0": true, long + "n": false, "while": false, "a-": false, "a b": false, "a\n": false, "A": false, "0": false, "\xc3\xa9": false, "_": false} {
			if got := tree.Right(place(s)); got != want {
				t.Errorf("%d: %q: %v", i, s, got)
			}
			if text, e := tree.Show(place(s)); want && (e != api.OK || !strings.Contains(" "+text, " "+s)) || !want && (text != "" || e != api.ErrTree) {
				t.Errorf("%d: %q: %q %d", i, s, text, e)
			}
		}
	}
}

// P3.1: fields, parameters and arguments, and declarations, to their limits.
func TestCounts(t *testing.T) {
	var pairs []api.Pair
	var args []api.Expr
	for i := range 12 {
		fields := decls(api.Decl{Kind: api.DStruct, Name: "s", Pairs: pairs})
		params := decls(api.Decl{Kind: api.DFunc, Name: "f", Pairs: pairs})
		call := thread(api.Stmt{Kind: api.SCall, Name: "f", Exprs: args})
		if tree.Right(fields) != (i <= 8) || tree.Right(params) != (i <= 4) || tree.Right(call) != (i <= 4) {
			t.Error(i)
		}
		pairs, args = append(pairs, api.Pair{Name: "p", Type: "int"}), append(args, num(i))
	}
	var list []api.Decl
	for i := range 130 {
		want := "no"
		if i <= 64 {
			want = strings.TrimSuffix(strings.Repeat("input i ; ", i), " ")
		}
		shows(t, decls(list...), want)
		list = append(list, api.Decl{Kind: api.DInput, Name: "i"})
	}
}

func nested(n int, e api.Expr, around func(api.Expr) api.Expr) api.Expr {
	for range n {
		e = around(e)
	}
	return e
}

// P3.1: an Arg is one deeper than its expression, but the object of a field and the slice of an index or a cut.
func TestDeepExprs(t *testing.T) {
	x, one := name("x"), num(1)
	for i, around := range []func(e api.Expr) api.Expr{
		func(e api.Expr) api.Expr { return expr(api.EUnary, "!", e) },
		func(e api.Expr) api.Expr { return expr(api.EBinary, "<=", e, one) },
		func(e api.Expr) api.Expr { return expr(api.EBinary, "-", one, e) },
		func(e api.Expr) api.Expr { return expr(api.ELen, "", e) },
		func(e api.Expr) api.Expr { return expr(api.EMake, "", e) },
		func(e api.Expr) api.Expr { return expr(api.EIndex, "", x, e) },
		func(e api.Expr) api.Expr { return expr(api.ESlice, "", x, e, one) },
		func(e api.Expr) api.Expr { return expr(api.ESlice, "", x, one, e) },
		func(e api.Expr) api.Expr { return expr(api.EIndex, "", expr(api.EField, "f", x), e) },
		func(e api.Expr) api.Expr { return expr(api.EUnary, "-", expr(api.EField, "f", e)) },
		func(e api.Expr) api.Expr { return expr(api.EField, "f", expr(api.EUnary, "-", e)) },
		func(e api.Expr) api.Expr { return expr(api.EIndex, "", expr(api.ELen, "", e), one) },
		func(e api.Expr) api.Expr { return expr(api.ESlice, "", expr(api.EMake, "", e), one, one) },
		func(e api.Expr) api.Expr { return expr(api.EField, "f", expr(api.EIndex, "", x, e)) },
		func(e api.Expr) api.Expr { return expr(api.EIndex, "", x, expr(api.EField, "f", e)) },
	} {
		for n := range 30 {
			e := nested(n, one, around)
			if s, code := tree.ShowExpr(e); (code == api.OK) != (n <= 22) || (s == "") == (n <= 22) {
				t.Error(i, n, s, code)
			}
			for block := 1; block <= 24; block++ {
				if got := tree.Right(inBlock(block, out(e))); got != (block+1+n <= 24) {
					t.Error(i, n, block, got)
				}
			}
		}
	}
}

// inBlock: a program with a statement in a block that is so deep.
func inBlock(deep int, s api.Stmt) api.Program {
	for i := range deep - 1 {
		body := []api.Stmt{lock("l"), s}
		switch i % 3 {
		case 0:
			s = api.Stmt{Kind: api.SWhile, Exprs: []api.Expr{num(1)}, Body: body}
		case 1:
			s = api.Stmt{Kind: api.SIf, Exprs: []api.Expr{num(1)}, Body: body, Else: body[:1]}
		default:
			s = api.Stmt{Kind: api.SIf, Exprs: []api.Expr{num(1)}, Body: body[:1], Else: body}
		}
	}
	if deep%2 == 0 {
		return decls(api.Decl{Kind: api.DFunc, Name: "f", Body: []api.Stmt{s}})
	}
	return thread(s)
}

// P3.1: every expression of every statement is one deeper than the block, and so is a block in a statement.
func TestDeepStmts(t *testing.T) {
	x, deep := name("x"), func(n int) api.Expr {
		return nested(n, num(1), func(e api.Expr) api.Expr { return expr(api.EUnary, "-", e) })
	}
	for i, with := range []func(e api.Expr) api.Stmt{
		func(e api.Expr) api.Stmt {
			return api.Stmt{Kind: api.SVar, Name: "v", Type: "int", Exprs: []api.Expr{e}}
		},
		func(e api.Expr) api.Stmt {
			return api.Stmt{Kind: api.SSet, Exprs: []api.Expr{expr(api.EField, "f", e), x}}
		},
		func(e api.Expr) api.Stmt { return api.Stmt{Kind: api.SSet, Exprs: []api.Expr{x, e}} },
		func(e api.Expr) api.Stmt { return api.Stmt{Kind: api.SIf, Exprs: []api.Expr{e}} },
		func(e api.Expr) api.Stmt { return api.Stmt{Kind: api.SWhile, Exprs: []api.Expr{e}} },
		func(e api.Expr) api.Stmt { return api.Stmt{Kind: api.SSend, Name: "c", Exprs: []api.Expr{e}} },
		out,
		func(e api.Expr) api.Stmt { return api.Stmt{Kind: api.SCall, Name: "f", Exprs: []api.Expr{e, x}} },
		func(e api.Expr) api.Stmt {
			return api.Stmt{Kind: api.SCall, Name: "f", Type: "x", Exprs: []api.Expr{x, x, x, e}}
		},
		func(e api.Expr) api.Stmt { return api.Stmt{Kind: api.SReturn, Exprs: []api.Expr{e}} },
	} {
		for _, c := range [][2]int{{1, 22}, {1, 23}, {2, 21}, {2, 22}, {12, 11}, {12, 12}, {22, 1}, {22, 2}, {23, 0}, {23, 1}, {24, 0}} {
			if got := tree.Right(inBlock(c[0], with(deep(c[1])))); got != (c[0]+1+c[1] <= 24) {
				t.Error(i, c, got)
			}
		}
	}
	for n := 1; n < 40; n++ {
		if got := tree.Right(inBlock(n, lock("l"))); got != (n <= 24) {
			t.Error(n, got)
		}
	}
}

// P3.1: fields, indexes and cuts one behind the other, at most eight.
func TestChains(t *testing.T) {
	x, one := name("x"), num(1)
	links := []func(e api.Expr) api.Expr{
		func(e api.Expr) api.Expr { return expr(api.EField, "f", e) },
		func(e api.Expr) api.Expr { return expr(api.EIndex, "", e, one) },
		func(e api.Expr) api.Expr { return expr(api.ESlice, "", e, one, one) },
	}
	chain := func(n, kind int, e api.Expr) api.Expr {
		for i := range n {
			e = links[(kind+i*(kind/3))%3](e)
		}
		return e
	}
	for kind := range 9 {
		for n := range 20 {
			good := n <= 8
			if s, e := tree.ShowExpr(chain(n, kind, x)); (e == api.OK) != good || (s != "") != good {
				t.Error(kind, n, s, e)
			}
			if got := tree.Right(thread(out(chain(n, kind, x)))); got != good {
				t.Error(kind, n, got)
			}
			// What isn't the first Arg of such a one begins a new chain.
			for i, e := range []api.Expr{
				expr(api.EIndex, "", chain(7, kind, x), chain(n, kind, x)), expr(api.ESlice, "", chain(7, kind, x), chain(n, kind, x), one), expr(api.ESlice, "", chain(7, kind, x), one, chain(n, kind, x)),
				chain(8, kind, expr(api.ELen, "", chain(n, kind, x))), chain(8, kind, expr(api.EUnary, "-", chain(n, kind, x))), chain(8, kind, expr(api.EBinary, "+", x, chain(n, kind, x))), chain(8, kind, expr(api.EMake, "", chain(n, kind, x))),
			} {
				if _, e := tree.ShowExpr(e); (e == api.OK) != good {
					t.Error(kind, n, i, e)
				}
			}
		}
	}
	if s, _ := tree.ShowExpr(chain(8, 3, x)); s != "x . f [ 1 ] [ 1 : 1 ] . f [ 1 ] [ 1 : 1 ] . f [ 1 ]" {
		t.Error(s)
	}
	// A chain is as deep as its first part, of which it may have eight links at any depth.
	deep := nested(22, one, func(e api.Expr) api.Expr { return expr(api.EUnary, "-", e) })
	if _, e := tree.ShowExpr(chain(8, 0, deep)); e != api.OK {
		t.Error(e)
	}
	if _, e := tree.ShowExpr(chain(8, 0, expr(api.EUnary, "-", deep))); e != api.ErrTree {
		t.Error(e)
	}
}

// sum: an expression of leaves: of n names it has 4 n - 3 tokens.
func sum(leaves ...api.Expr) api.Expr {
	if len(leaves) == 1 {
		return leaves[0]
	}
	half := len(leaves) / 2
	return expr(api.EBinary, "+", sum(leaves[:half]...), sum(leaves[half:]...))
}

// sized: an expression whose text has so many bytes and tokens in all, its names of 16 bytes as far as it can be.
func sized(t *testing.T, tokens, bytes int) api.Expr {
	t.Helper()
	leaves := make([]api.Expr, (tokens+3)/4)
	for i := range leaves {
		leaves[i] = name("n")
	}
	for i := range tokens - (4*len(leaves) - 3) {
		leaves[i] = expr(api.ENew, "n")
	}
	signs, news := len(leaves)-1, tokens-(4*len(leaves)-3)
	missing := bytes - (tokens - 1) - 3*signs - 3*news - len(leaves)
	for i := range leaves {
		more := min(missing, 15)
		leaves[i].Name += strings.Repeat("n", more)
		missing -= more
	}
	e := sum(leaves...)
	if missing != 0 {
		t.Fatal("no such expression", tokens, bytes, missing)
	}
	return e
}

// P3.1: the text has at most MaxText bytes, and at most MaxTokens tokens.
func TestTexts(t *testing.T) {
	holds := func(s string, tokens, bytes int) bool {
		list, _, e := lex.Tokens(s)
		return e == api.OK && len(list) == tokens && len(s) == bytes
	}
	for tokens := 4088; tokens < 4104; tokens++ {
		good := tokens <= 4096
		if s, e := tree.ShowExpr(sized(t, tokens, 4*tokens)); (e == api.OK) != (good && 4*tokens <= 16384) || e == api.OK && !holds(s, tokens, 4*tokens) || e != api.OK && s != "" {
			t.Error(tokens, e)
		}
		if s, e := tree.ShowExpr(sized(t, tokens, 3*tokens)); (e == api.OK) != good || good && !holds(s, tokens, 3*tokens) || !good && s != "" {
			t.Error(tokens, e)
		}
		// "thread t { out o" and "; }" are seven tokens more, of 21 bytes with their blanks.
		whole := thread(out(sized(t, tokens-7, 3*tokens)))
		if s, e := tree.Show(whole); (e == api.OK) != good || good && !holds(s, tokens, 3*tokens+21) || !good && s != "" || tree.Right(whole) != good {
			t.Error(tokens, e)
		}
	}
	for bytes := 16370; bytes < 16400; bytes++ {
		good := bytes <= 16384
		for _, tokens := range []int{2900, 3500, 4095} {
			if s, e := tree.ShowExpr(sized(t, tokens, bytes)); (e == api.OK) != good || good && !holds(s, tokens, bytes) || !good && s != "" {
				t.Error(tokens, bytes, e)
			}
			// And seventeen bytes are ahead of it, four behind it.
			whole := thread(out(sized(t, tokens-7, bytes-21)))
			if s, e := tree.Show(whole); (e == api.OK) != good || good && !holds(s, tokens, bytes) || !good && s != "" || tree.Right(whole) != good {
				t.Error(tokens, bytes, e)
			}
		}
	}
}

// P3.1, P1: parts that stand in a tree again and again, or within themselves.
func TestShared(t *testing.T) {
	wide := num(1)
	for range 22 {
		wide = expr(api.EBinary, "+", wide, wide)
	}
	showsExpr(t, wide, "no")
	for _, e := range []api.Expr{expr(api.EUnary, "-", num(1)), expr(api.EBinary, "+", num(1), num(1)), expr(api.EField, "f", num(1)), expr(api.EIndex, "", num(1), num(1)), expr(api.ESlice, "", num(1), num(1), num(1))} {
		for i := range e.Args {
			e.Args[i] = e
		}
		showsExpr(t, e, "no")
	}
	for _, s := range []api.Stmt{{Kind: api.SWhile, Exprs: []api.Expr{num(1)}}, {Kind: api.SIf, Exprs: []api.Expr{num(1)}}} {
		body := []api.Stmt{s, s}
		body[0].Body, body[1].Body = body, body
		shows(t, thread(body...), "no")
		body[0].Body, body[1].Body = nil, nil
		if s.Kind == api.SIf {
			body[0].Else, body[1].Else = body, body
			shows(t, thread(body...), "no")
		}
	}
	body := []api.Stmt{lock("l")}
	for range 22 {
		body = []api.Stmt{{Kind: api.SIf, Exprs: []api.Expr{num(1)}, Body: body, Else: body}}
	}
	shows(t, thread(body...), "no")
	shows(t, thread(slices.Repeat([]api.Stmt{lock("l")}, 1<<20)...), "no")
	shows(t, thread(out(expr(api.EUnary, "-", make([]api.Expr, 1<<20)...))), "no")
}

// P3.1, rule 1: a nil list and an empty one are the same; a tree of zero values has no text but that of no declarations.
func TestEmpty(t *testing.T) {
	shows(t, api.Program{}, "")
	shows(t, decls([]api.Decl{}...), "")
	shows(t, decls(api.Decl{}), "no")
	shows(t, thread(api.Stmt{}), "no")
	showsExpr(t, api.Expr{}, "no")
	shows(t, decls(api.Decl{Kind: api.DFunc, Name: "f", Pairs: []api.Pair{}, Body: []api.Stmt{}}), "func f ( ) { }")
	shows(t, decls(api.Decl{Kind: api.DFunc, Name: "f"}), "func f ( ) { }")
	shows(t, decls(api.Decl{Kind: api.DStruct, Name: "s"}), "struct s { }")
	shows(t, decls(api.Decl{Kind: api.DLock, Name: "l", Pairs: []api.Pair{}, Body: []api.Stmt{}}), "lock l ;")
	shows(t, thread(api.Stmt{Kind: api.SIf, Exprs: []api.Expr{{Kind: api.ENil, Args: []api.Expr{}}}, Else: []api.Stmt{}}), "thread t { if nil { } }")
	shows(t, thread(api.Stmt{Kind: api.SReturn, Exprs: []api.Expr{}, Body: []api.Stmt{}}), "thread t { return ; }")
	shows(t, thread(api.Stmt{Kind: api.SReturn, Exprs: []api.Expr{{}}}), "no")
}

// whole: a program with all kinds in it, every list with spare room that holds something.
func whole() api.Program {
	exprs := func(list ...api.Expr) []api.Expr { return append(list, expr(77, "spare"))[:len(list)] }
	stmts := func(list ...api.Stmt) []api.Stmt { return append(list, api.Stmt{Kind: 77, Name: "spare"})[:len(list)] }
	pairs := func(list ...api.Pair) []api.Pair { return append(list, api.Pair{Name: "spare", Type: "?"})[:len(list)] }
	e := api.Expr{Kind: api.EBinary, Name: "==", At: 9, Args: exprs(
		api.Expr{Kind: api.ESlice, Args: exprs(api.Expr{Kind: api.EIndex, Args: exprs(expr(api.EField, "f", exprs(name("x"))...), num(1))}, api.Expr{Kind: api.ELen, Args: exprs(name("y"))}, api.Expr{Kind: api.EMake, Args: exprs(num(9))})},
		api.Expr{Kind: api.EUnary, Name: "!", Args: exprs(api.Expr{Kind: api.EBool, Num: 1})})}
	inner := stmts(api.Stmt{Kind: api.SVar, Name: "v", Type: "*s", Exprs: exprs(expr(api.ENew, "s"))}, api.Stmt{Kind: api.SSet, Exprs: exprs(expr(api.EField, "f", exprs(name("x"))...), expr(api.ERelease, "h"))}, api.Stmt{Kind: api.SUnlock, Name: "l"}, api.Stmt{Kind: api.SRecv, Name: "c", Type: "v"})
	list := stmts(api.Stmt{Kind: api.SIf, Exprs: exprs(e), Body: inner, Else: stmts(lock("l"))}, api.Stmt{Kind: api.SWhile, Exprs: exprs(e), Body: inner}, api.Stmt{Kind: api.SSend, Name: "c", Exprs: exprs(e)}, api.Stmt{Kind: api.SOut, Name: "o", Exprs: exprs(e)}, api.Stmt{Kind: api.SCall, Name: "f", Type: "v", Exprs: exprs(e, num(2))}, api.Stmt{Kind: api.SReturn, Exprs: exprs(api.Expr{Kind: api.ENil})})
	all := []api.Decl{{Kind: api.DLock, Name: "l", At: 5}, {Kind: api.DChan, Name: "c", Num: 4}, {Kind: api.DStruct, Name: "s", Pairs: pairs(api.Pair{Name: "f", Type: "[]int"})}, {Kind: api.DVar, Name: "g", Type: "bool"}, {Kind: api.DInput, Name: "i"}, {Kind: api.DSink, Name: "o"}, {Kind: api.DFunc, Name: "f", Pairs: pairs(api.Pair{Name: "p", Type: "*s"}, api.Pair{Name: "q", Type: "bool"}), Type: "int", Body: list}, {Kind: api.DThread, Name: "t", Body: inner}}
	return api.Program{Decls: append(all, api.Decl{Kind: 77, Name: "spare"})[:len(all)]}
}

const wholeExpr = "( x . f [ 1 ] [ len ( y ) : make ( 9 ) ] == ( ! true ) )"

const wholeInner = "{ var v * s = new s ; set x . f = release h ; unlock l ; recv c v ; }"

const wholeText = "lock l ; chan c 4 ; struct s { f [ ] int ; } var g bool ; input i ; sink o ; func f ( p * s , q bool ) int { if " + wholeExpr + " " + wholeInner + " else { lock l ; } while " + wholeExpr + " " + wholeInner + " send c " + wholeExpr + " ; out o " + wholeExpr + " ; call v = f ( " + wholeExpr + " , 2 ) ; return nil ; } thread t " + wholeInner

// full: a list to its memory's end.
func full[T any](list []T) []T { return list[:cap(list)] }

// P3.2: what is handed in is as it was, in its spare room too, be it right or wrong.
func TestUnchanged(t *testing.T) {
	for i, spoil := range []func(p *api.Program){
		func(p *api.Program) {},
		func(p *api.Program) { p.Decls[7].Name = "?" },
		func(p *api.Program) { p.Decls[6].Body[5].Exprs[0].Num = 1 },
		func(p *api.Program) { p.Decls[6].Body[4].Exprs[1].Kind = 0 },
		func(p *api.Program) { p.Decls[2].Type = "int" },
	} {
		p, want := whole(), whole()
		spoil(&p)
		spoil(&want)
		s, e := tree.Show(p)
		if i == 0 && (s != wholeText || e != api.OK) || i > 0 && (s != "" || e != api.ErrTree) || tree.Right(p) != (i == 0) {
			t.Errorf("%d: %q %d", i, s, e)
		}
		unchanged(t, p, want)
		unchanged(t, api.Program{Decls: full(p.Decls)}, api.Program{Decls: full(want.Decls)})
	}
	e, want := whole().Decls[6].Body[0].Exprs, whole().Decls[6].Body[0].Exprs
	if s, code := tree.ShowExpr(e[0]); s != wholeExpr || code != api.OK {
		t.Error(s, code)
	}
	sameExprs(t, e, want)
}

func unchanged(t *testing.T, p, want api.Program) {
	t.Helper()
	if !reflect.DeepEqual(p, want) {
		t.Errorf("changed: %v", p)
	}
	for i, d := range p.Decls {
		if !reflect.DeepEqual(full(d.Pairs), full(want.Decls[i].Pairs)) {
			t.Error("changed behind the pairs", d.Name)
		}
		sameStmts(t, d.Body, want.Decls[i].Body)
	}
}

func sameStmts(t *testing.T, a, b []api.Stmt) {
	t.Helper()
	if !reflect.DeepEqual(full(a), full(b)) {
		t.Error("changed behind the statements")
	}
	for i := range a {
		sameStmts(t, a[i].Body, b[i].Body)
		sameStmts(t, a[i].Else, b[i].Else)
		sameExprs(t, a[i].Exprs, b[i].Exprs)
	}
}

func sameExprs(t *testing.T, a, b []api.Expr) {
	t.Helper()
	if !reflect.DeepEqual(full(a), full(b)) {
		t.Error("changed behind the expressions")
	}
	for i := range a {
		sameExprs(t, a[i].Args, b[i].Args)
	}
}

// P2, rule 5: an answer hangs on its tree alone, and is new memory.
func TestNewMemory(t *testing.T) {
	wrong := thread(out(num(-1)))
	for range 3 {
		shows(t, wrong, "no")
		shows(t, whole(), wholeText)
		showsExpr(t, num(-1), "no")
		showsExpr(t, num(12), "12")
		if tree.ShowType("*if") != "" || tree.ShowType("*a") != "* a" {
			t.Error("ShowType")
		}
	}
	within := func(part, s string) bool {
		at, from := uintptr(unsafe.Pointer(unsafe.StringData(part))), uintptr(unsafe.Pointer(unsafe.StringData(s)))
		return at >= from && at < from+uintptr(len(s))
	}
	long := strings.Clone("a_long_name")
	if s, e := tree.ShowExpr(name(long)); e != api.OK || s != long || within(s, long) {
		t.Error("the answer is what was handed in", s, e)
	}
	types := strings.Clone("int bool []int")
	for _, typ := range strings.Fields(types) {
		if s := tree.ShowType(typ); s == "" || within(s, types) {
			t.Error("the answer is what was handed in", s)
		}
	}
}

// P3.1: the text's tokens, with a blank between each two, are those of layer 2.
func TestTokens(t *testing.T) {
	s, _ := tree.Show(whole())
	list, _, e := lex.Tokens(s)
	var tokens []string
	for _, k := range list {
		tokens = append(tokens, k.Text)
	}
	if e != api.OK || strings.Join(tokens, " ") != s {
		t.Error(e, tokens)
	}
}
