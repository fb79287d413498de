package types_test

import (
	"slices"
	"strings"
	"testing"

	"portcullis/api"
	"portcullis/parse"
	"portcullis/sample"
	"portcullis/tree"
	"portcullis/types"
)

// read: the program of a text, and where its marks "@" stood.
func read(t *testing.T, s string) (api.Program, []int) {
	t.Helper()
	s, marks := sample.Marked(s)
	p, at, e := parse.Program(s)
	if e != api.OK {
		t.Fatalf("%.300q: %d %d", s, at, e)
	}
	return p, marks
}

// told: of a text's marks what is wrong there.
func told(t *testing.T, s, want string) {
	t.Helper()
	p, marks := read(t, s)
	if got, list := types.Check(p), sample.Wanted(want, marks); !slices.Equal(got, list) {
		t.Errorf("%.300q:\n%v, want\n%v", s, got, list)
	}
}

// around: declarations of all kinds that the tests use.
const around = "struct n { v int ; b bool ; l [ ] int ; p * n ; q * m ; } struct m { v bool ; p * m ; } lock k ; chan c 1 ; input i ; sink o ; var g int ; var gb bool ; var gl [ ] int ; var gn * n ; var gm * m ; "

// values: of each type an expression.
func values() map[string]string {
	return map[string]string{"int": "g", "bool": "gb", "[]int": "gl", "*n": "gn", "*m": "gm", "nil": "nil"}
}

// out: what a text with a value is told to be, at its mark, unless it is right.
func out(holds bool) string {
	if holds {
		return ""
	}
	return "type"
}

// P7.1, P7.2: the type of each kind of expression that is right.
func TestOf(t *testing.T) {
	p, _ := read(t, around+"func f ( ) { } thread t { }")
	locals := []api.Pair{{Name: "x", Type: "int"}, {Name: "y", Type: "*m"}, {Name: "z", Type: "[]int"}, {Name: "w", Type: "bool"}}
	for typ, list := range map[string]string{
		"int":   "0; 7; 999999999999999999; i; g; x; release h; release g; gn . v; gn . p . p . v; new n . v; gl [ 0 ]; gl [ gl [ x ] ]; z [ gn . l [ 1 ] ]; gn . l [ i ]; make ( 1 ) [ 2 ]; gl [ 1 : 2 ] [ 3 ]; len ( gl ); len ( make ( len ( z ) ) ); ( - 1 ); ( - ( - x ) ); ( 1 + 2 ); ( 1 - x ); ( x * g ); ( g / i ); ( release h % gn . v )",
		"bool":  "true; false; gb; w; gn . b; gm . v; y . p . v; ( ! true ); ( ! ( ! w ) ); ( true & gb ); ( w | false ); ( 1 < 2 ); ( g <= i ); ( 1 == 2 ); ( 1 != g ); ( true == ( 1 < 2 ) ); ( w != gb ); ( gn == gn ); ( gm != y ); ( nil == gn ); ( gm != nil ); ( nil == nil ); ( nil != nil ); ( new n == gn . p )",
		"[]int": "gl; z; gn . l; gl [ 0 : 1 ]; gl [ i : g ] [ x : 3 ]; gn . l [ 1 : 1 ]; make ( 0 ); make ( make ( 1 ) [ 2 ] )",
		"*n":    "gn; gn . p; gn . p . p; new n; new n . p",
		"*m":    "gm; y; gm . p; gn . q; gn . q . p; new m",
		"nil":   "nil",
	} {
		for _, s := range strings.Split(list, "; ") {
			e, _, err := parse.Expr(s)
			if got, diags := types.Of(p, locals, e); err != 0 || got != typ || len(diags) != 0 {
				t.Error(s, err, got, diags)
			}
		}
	}
	// Locals hang on what is handed in, and on nothing else.
	for _, typ := range []string{"int", "bool", "[]int", "*n", "*m"} {
		e, _, _ := parse.Expr("v")
		if got, diags := types.Of(p, []api.Pair{{Name: "u", Type: "int"}, {Name: "v", Type: typ}, {Name: "w", Type: "int"}}, e); got != typ || len(diags) != 0 {
			t.Error(typ, got, diags)
		}
	}
}

// ofWrong: of an expression's marks what is wrong there.
func ofWrong(t *testing.T, s, want string) {
	t.Helper()
	p, _ := read(t, around)
	s, marks := sample.Marked(s)
	e, at, err := parse.Expr(s)
	if err != api.OK {
		t.Fatal(s, at, err)
	}
	typ, got := types.Of(p, []api.Pair{{Name: "x", Type: "int"}, {Name: "y", Type: "*m"}}, e)
	if typ != "" || !slices.Equal(got, sample.Wanted(want, marks)) {
		t.Errorf("%q: %q %v, want %v", s, typ, got, sample.Wanted(want, marks))
	}
}

// P7.1, P7.2: an expression is wrong at itself only where its Args are not.
func TestWrongWithin(t *testing.T) {
	ofWrong(t, "@( 1 + true )", "type")
	ofWrong(t, "( 1 + @( 2 + true ) )", "type")
	ofWrong(t, "( @( 1 & 2 ) + @( true + 2 ) )", "type|type")
	ofWrong(t, "( true & @( ! 2 ) )", "type")
	ofWrong(t, "( gb + @( - gb ) )", "type")
	ofWrong(t, "( @( - gb ) + gb )", "type")
	ofWrong(t, "( - @( ! 2 ) )", "type")
	ofWrong(t, "gn @. w", "none w")
	ofWrong(t, "gn @. w . v", "none w")
	ofWrong(t, "gn . p @. w . p . v", "none w")
	ofWrong(t, "( gn @. z + gm @. b )", "none z|none b")
	ofWrong(t, "gn . q @. q", "none q")
	ofWrong(t, "y @. q", "none q")
	ofWrong(t, "x @. v", "type")
	ofWrong(t, "gb @. v", "type")
	ofWrong(t, "gl @. v", "type")
	ofWrong(t, "nil @. v", "type")
	ofWrong(t, "nil @. w . w", "type")
	ofWrong(t, "gn . v @. v", "type")
	ofWrong(t, "gl [ 1 ] @[ 1 ]", "type")
	ofWrong(t, "gn @[ 1 ] [ 1 ] . v", "type")
	ofWrong(t, "gn [ gn @. x ]", "none x")
	ofWrong(t, "gn [ @( ! 1 ) ]", "type")
	ofWrong(t, "gl [ @( ! 1 ) : @( ! 1 ) ]", "type|type")
	ofWrong(t, "gb @. v [ @( ! 1 ) : gm @. x ]", "type|type|none x")
	ofWrong(t, "len ( @len ( 1 ) )", "type")
	ofWrong(t, "@len ( x )", "type")
	ofWrong(t, "make ( @make ( true ) )", "type")
	ofWrong(t, "@make ( make ( 1 ) )", "type")
	ofWrong(t, "( @( 1 == true ) == @( gl == gl ) )", "type|type")
	ofWrong(t, "@( ( 1 == 1 ) == 1 )", "type")
}

// P7.1, P7.2: each operator, of each pair of types.
func TestOperators(t *testing.T) {
	p, _ := read(t, around)
	pointers := []string{"*n", "*m", "nil"}
	for first, x := range values() {
		for second, y := range values() {
			ints, bools := first == "int" && second == "int", first == "bool" && second == "bool"
			same := ints || bools || slices.Contains(pointers, first) && slices.Contains(pointers, second) && (first == second || first == "nil" || second == "nil")
			for signs, c := range map[string]struct {
				holds bool
				gives string
			}{"+ - * / %": {ints, "int"}, "< <=": {ints, "bool"}, "& |": {bools, "bool"}, "== !=": {same, "bool"}} {
				for _, sign := range strings.Fields(signs) {
					e, _, _ := parse.Expr("( " + x + " " + sign + " " + y + " )")
					got, diags := types.Of(p, nil, e)
					if c.holds && (got != c.gives || len(diags) != 0) || !c.holds && (got != "" || !slices.Equal(diags, []api.Diag{{Code: api.ErrType}})) {
						t.Error(first, sign, second, got, diags)
					}
				}
			}
		}
		for form, c := range map[string]struct{ of, gives string }{"( - V )": {"int", "int"}, "( ! V )": {"bool", "bool"}, "len ( V )": {"[]int", "int"}, "make ( V )": {"int", "[]int"}, "gl [ V ]": {"int", "int"}, "V [ 1 ]": {"[]int", "int"}, "V [ 1 : 1 ]": {"[]int", "[]int"}, "gl [ V : 1 ]": {"int", "[]int"}, "gl [ 1 : V ]": {"int", "[]int"}, "V . p": {"*n *m", first}, "V . l": {"*n", "[]int"}, "V . v": {"*n *m", map[string]string{"*n": "int", "*m": "bool"}[first]}} {
			e, _, _ := parse.Expr(strings.Replace(form, "V", x, 1))
			got, diags := types.Of(p, nil, e)
			want := []api.Diag{{At: e.At, Code: api.ErrType}}
			if form == "V . l" && first == "*m" {
				want = []api.Diag{{At: e.At, Code: api.ErrNone, Name: "l"}}
			}
			if slices.Contains(strings.Fields(c.of), first) {
				want = nil
			} else {
				c.gives = ""
			}
			if got != c.gives || !slices.Equal(diags, want) {
				t.Error(form, first, got, diags)
			}
		}
	}
}

// P7.1: each statement with a value, of each type.
func TestValues(t *testing.T) {
	goes := func(value, place string) bool {
		return value == place || value == "nil" && strings.HasPrefix(place, "*")
	}
	for value, v := range values() {
		for place, name := range values() {
			if place == "nil" {
				continue
			}
			written := tree.ShowType(place)
			holds := out(goes(value, place))
			told(t, around+"thread t { @var x "+written+" = "+v+" ; }", holds)
			told(t, around+"thread t { @set "+name+" = "+v+" ; }", holds)
			told(t, around+"thread t { var x "+written+" = "+name+" ; if gb { @set x = "+v+" ; } }", holds)
			told(t, around+"func f ( x "+written+" ) { while gb { @set x = "+v+" ; } }", holds)
			told(t, around+"func f ( x int , y "+written+" , z bool ) { } thread t { @call f ( 1 , "+v+" , true ) ; }", holds)
			told(t, around+"func f ( ) "+written+" { if gb { @return "+v+" ; } else { @return "+v+" ; } }", strings.Repeat(strings.Replace(holds, "type", "return", 1)+"|", 2))
			told(t, around+"func f ( ) "+written+" { @return ; }", "return")
			field := map[string]string{"int": "gn . v", "bool": "gn . b", "[]int": "gn . l", "*n": "gn . p", "*m": "gn . q"}[place]
			told(t, around+"thread t { @set "+field+" = "+v+" ; }", holds)
			if value != "nil" {
				told(t, around+"func f ( ) "+tree.ShowType(value)+" { return "+v+" ; } thread t { var x "+written+" = "+name+" ; @call x = f ( ) ; }", out(value == place))
			}
		}
		told(t, around+"thread t { @set gl [ 0 ] = "+v+" ; }", out(value == "int"))
		told(t, around+"thread t { @set i = "+v+" ; }", "type")
		told(t, around+"thread t { @if "+v+" { } }", out(value == "bool"))
		told(t, around+"thread t { @while "+v+" { } }", out(value == "bool"))
		told(t, around+"thread t { @send c "+v+" ; }", out(value == "int"))
		told(t, around+"thread t { @out o "+v+" ; }", out(value == "int"))
		told(t, around+"thread t { @return "+v+" ; }", "return")
		told(t, around+"func f ( ) { @return "+v+" ; }", "return")
		if value != "nil" {
			told(t, around+"thread t { var x "+tree.ShowType(value)+" = "+v+" ; @recv c x ; }", out(value == "int"))
		}
	}
	told(t, around+"thread t { return ; lock k ; unlock k ; } func f ( ) { return ; if true { return ; } }", "")
}

// P7.1: SCall's arguments are as many as the parameters, and its local has a result to take.
func TestCalls(t *testing.T) {
	some := around + "func none ( ) { } func one ( x int ) bool { } func four ( x int , y bool , z * n , w [ ] int ) * n { } "
	told(t, some+"thread t { call none ( ) ; call one ( 1 ) ; call four ( 1 , true , nil , gl ) ; var x bool = true ; call x = one ( 1 ) ; var y * n = nil ; call y = four ( i , x , y , make ( 1 ) ) ; }", "")
	told(t, some+"thread t { @call none ( 1 ) ; @call one ( ) ; @call one ( 1 , 2 ) ; @call four ( 1 , true , nil ) ; @call four ( ) ; @call four ( true , 1 , gl , nil ) ; @call four ( 1 , true , nil , nil ) ; @call four ( 1 , true , 1 , gl ) ; }", "type|type|type|type|type|type|type|type")
	told(t, some+"thread t { var x int = 1 ; var y bool = true ; var z * n = nil ; var w * m = nil ; @call x = none ( ) ; @call x = one ( 1 ) ; call y = one ( 1 ) ; @call y = one ( ) ; call z = four ( 1 , y , z , gl ) ; @call w = four ( 1 , y , z , gl ) ; @call x = four ( 1 , y , z , gl ) ; @call y = none ( 1 ) ; }", "type|type|type|type|type|type")
	// Once, however much is wrong.
	told(t, some+"thread t { var x int = 1 ; @call x = four ( gl , gl , gl ) ; }", "type")
	// Functions are known everywhere, in themselves too.
	told(t, "thread t { @call f ( 1 ) ; call f ( true ) ; } func f ( x bool ) { call f ( x ) ; @call f ( ) ; call g ( ) ; var y int = 0 ; @call y = g ( ) ; } func g ( ) bool { }", "type|type|type")
}

// P7.1: where an expression is wrong, nothing is told at its statement.
func TestWrongStatement(t *testing.T) {
	told(t, around+"thread t { var x bool = @( 1 + true ) ; set i = @( ! 1 ) ; set gn @. w = 1 ; set gn . v @. w = gl @. w ; set g = gn @. w ; }", "type|type|none w|type|type|none w")
	told(t, around+"thread t { if @( - true ) { @set g = true ; } else { @out o gb ; } @while gn { } }", "type|type|type|type")
	told(t, around+"thread t { send c @len ( 1 ) ; out o @( 1 & 1 ) ; return @( 1 & 1 ) ; call f ( true , gl @[ true ] ) ; call f ( @( ! 1 ) , gm @. w ) ; var x int = 0 ; call x = f ( @( 1 < true ) ) ; } func f ( ) { } func h ( ) bool { return @( 1 + nil ) ; }", "type|type|type|type|type|none w|type|type")
	// But its blocks' are.
	told(t, around+"thread t { var y bool = true ; if @( 1 + nil ) { @var x int = nil ; if true { @return 1 ; } else { @return gl ; } } else { while @( 1 + gb ) { @recv c y ; } } }", "type|type|return|return|type|type")
}
