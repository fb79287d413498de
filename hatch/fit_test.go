package hatch_test

import (
	"fmt"
	"slices"
	"strings"
	"testing"

	"portcullis/api"
	"portcullis/hatch"
	"portcullis/parse"
	"portcullis/policy"
	"portcullis/sample"
	"portcullis/types"
)

// read: a right program and a policy of texts, and where the program's marks "@" stood.
func read(t *testing.T, program, lines string) (api.Program, api.Policy, []int) {
	t.Helper()
	program, marks := sample.Marked(program)
	p, at, e := parse.Program(program)
	if diags := types.Check(p); e != api.OK || len(diags) != 0 {
		t.Fatalf("%q: %d %d %v", program, at, e, diags)
	}
	q, line, e := policy.Parse(strings.ReplaceAll(lines, ", ", "\n"))
	if e != api.OK {
		t.Fatalf("%q: %d %d", lines, line, e)
	}
	return p, q, marks
}

// told: what is wrong with a policy, whose lines are parted by ", ", and, behind a "|" each, at a program's marks.
func told(t *testing.T, program, lines, want string) {
	t.Helper()
	p, q, marks := read(t, program, lines)
	_, got := hatch.Fit(p, q)
	if list := sample.Wanted(want, append([]int{0}, marks...)); !slices.Equal(got, list) {
		t.Errorf("%q with %q:\n%v, want\n%v", program, lines, got, list)
	}
}

// levels: the numbers that a policy has for a program.
func levels(t *testing.T, program, lines, want string) {
	t.Helper()
	p, q, _ := read(t, program, lines)
	got, _ := hatch.Fit(p, q)
	if text := shown(got); text != want {
		t.Errorf("%q with %q:\n%s, want\n%s", program, lines, text, want)
	}
}

func shown(l api.Levels) string {
	return fmt.Sprintf("%d %v in %v out %v lock %v chan %v var %v hatch %v", l.Size, l.Edges, l.Inputs, l.Sinks, l.Locks, l.Chans, l.Globals, l.Hatches)
}

// around: declarations of all kinds, those of one kind apart from each other, each with a name that tells its kind.
const around = "var g1 int ; sink s1 ; lock l1 ; input i1 ; chan c1 1 ; struct n { v int ; } func f ( x int ) int { return x ; } input i2 ; var g2 bool ; thread t { var y int = 0 ; } sink s2 ; chan c2 4 ; lock l2 ; "

// fits: the lines of a policy that fits it.
const fits = "level low, level high, edge low high, input i1 high, input i2 low, sink s1 low, sink s2 high"

// P8.1: policies that fit, and the levels' numbers.
func TestFits(t *testing.T) {
	for _, c := range []struct{ program, lines, want string }{
		{"thread t { }", "level low", "1 [] in [] out [] lock [] chan [] var [] hatch []"},
		{"", "level low", "1 [] in [] out [] lock [] chan [] var [] hatch []"},
		{around, fits, "2 [[0 1]] in [1 0] out [0 1] lock [-1 -1] chan [-1 -1] var [-1 -1] hatch []"},
		{around, fits + ", lock l2 low, chan c1 high, var g2 low, hatch h low ( i1 % 10 ), hatch k high i2", "2 [[0 1]] in [1 0] out [0 1] lock [-1 0] chan [1 -1] var [-1 0] hatch [0 1]"},
		{around, fits + ", lock l1 high, lock l2 high, chan c2 low, chan c1 low, var g2 high, var g1 low, hatch h high 1", "2 [[0 1]] in [1 0] out [0 1] lock [1 1] chan [0 0] var [0 1] hatch [1]"},
		// The policy's lines stand in any order; numbers are places among the levels.
		{around, "sink s2 a, hatch h b ( - i2 ), var g1 d, edge c a, level d, input i2 d, edge b d, level b, lock l1 c, level a, edge b c, chan c2 b, edge d a, input i1 c, level c, sink s1 d", "4 [[3 2] [1 0] [1 3] [0 2]] in [3 0] out [0 2] lock [3 -1] chan [-1 1] var [0 -1] hatch [1]"},
		// Edges stand as they are told, again and again, also from a level to itself.
		{"thread t { }", "level a, level b, edge a b, edge a b, edge b b, edge a a", "2 [[0 1] [0 1] [1 1] [0 0]] in [] out [] lock [] chan [] var [] hatch []"},
		{"lock level ; input low ; thread t { }", "level low, input low low, lock level low, hatch low low low", "1 [] in [0] out [] lock [0] chan [] var [] hatch [0]"},
		{"thread t { var x int = release a ; set x = ( release b - release a ) ; }", "level a, hatch a a 1, hatch b a 2, hatch c a 3", "1 [] in [] out [] lock [] chan [] var [] hatch [0 0 0]"},
	} {
		told(t, c.program, c.lines, "")
		levels(t, c.program, c.lines, c.want)
	}
}

// P8.1: names of levels, labels and hatches that stand there already.
func TestTwice(t *testing.T) {
	told(t, around, fits+", level low", "twice low")
	told(t, around, fits+", level high, level low, level high, level low", "twice high, twice low")
	told(t, around, fits+", input i1 high", "twice i1")
	told(t, around, fits+", input i1 low, input i1 low", "twice i1")
	told(t, around, fits+", sink s2 low, sink s1 low", "twice s1, twice s2")
	told(t, around, fits+", lock l1 low, lock l2 low, lock l1 low", "twice l1")
	told(t, around, fits+", chan c1 low, chan c1 low, var g1 low, var g2 low, var g2 low", "twice c1, twice g2")
	told(t, around, fits+", hatch h low 1, hatch k low 1, hatch h high 2", "twice h")
	// Names of two lists, or labels of two kinds, have nothing in common.
	told(t, "lock low ; input high ; chan h 1 ; thread t { }", "level low, level high, level h, edge low high, edge high h, lock low low, input high low, chan h low, hatch low low 1, hatch high low 1, hatch h low 1", "")
	told(t, around, fits+", sink i1 high, lock i1 high, chan i1 low", "kind i1")
	told(t, around, fits+", sink i1 high, lock i1 high, sink i1 low", "twice i1, kind i1")
	// Those that mean nothing are told twice all the same.
	told(t, around, fits+", lock z low, lock z low", "twice z, none z")
	told(t, around, fits+", lock t low, lock t low", "twice t, kind t")
	// Once, whatever it is the name of.
	told(t, "lock low ; thread t { }", "level low, level low, lock low low, lock low low, hatch low low 1, hatch low low 1", "twice low")
}

// P8.1: names of levels that aren't there.
func TestLevel(t *testing.T) {
	told(t, around, fits+", edge low x", "level x")
	told(t, around, fits+", edge x low", "level x")
	told(t, around, fits+", edge x y, edge y x, edge x x", "level x, level y")
	for _, label := range []string{"input i1", "sink s1", "lock l1", "chan c1", "var g1"} {
		name := label[strings.Index(label, " ")+1:]
		lines := slices.DeleteFunc(strings.Split(fits, ", "), func(line string) bool { return strings.HasPrefix(line, label) })
		told(t, around, strings.Join(lines, ", ")+", "+label+" x", "level x")
		told(t, around, fits+", "+label+" low, "+label+" x", "level x, twice "+name)
	}
	told(t, around, fits+", hatch h x 1, hatch k h 1", "level h, level x")
	told(t, around, fits+", lock l1 l1, var g1 i1, hatch h h 1", "level h, level i1, level l1")
	told(t, around, fits+", lock z x", "level x, none z")
	told(t, "thread t { }", "edge a b", "level a, level b")
	// A name that stands there twice is there.
	told(t, around, fits+", level low, lock l1 low", "twice low")
}

// P8.1: labels of what the program hasn't, or has as something else.
func TestLabels(t *testing.T) {
	named := map[string]string{"lock": "l1", "chan": "c1", "struct": "n", "var": "g1", "input": "i1", "sink": "s1", "func": "f", "thread": "t"}
	for _, kind := range []string{"input", "sink", "lock", "chan", "var"} {
		for of, name := range named {
			want := "kind " + name
			if of == kind {
				want = ""
				if kind == "input" || kind == "sink" {
					want = "twice " + name
				}
			}
			told(t, around, fits+", "+kind+" "+name+" low", want)
		}
		// Locals, parameters, fields, hatches and levels aren't declarations.
		for _, name := range []string{"z", "x", "y", "v", "h", "low", "l"} {
			told(t, around, fits+", "+kind+" "+name+" low, hatch h low 1", "none "+name)
		}
	}
	told(t, around, fits+", lock z low, var z low, sink a high, chan l1 low, var f low", "none a, none z, kind f, kind l1")
}

// P8.1: inputs and sinks without labels.
func TestUnlabelled(t *testing.T) {
	told(t, around, "level low", "label i1, label i2, label s1, label s2")
	told(t, around, "level low, input i2 low, sink s1 low", "label i1, label s2")
	told(t, around, "level low, sink s2 low, sink s1 low, input i1 low", "label i2")
	// One of another kind is none of it; one whose level isn't there is one.
	told(t, around, "level low, input i1 low, input i2 low, sink s1 low, input s2 low", "kind s2, label s2")
	told(t, around, "level low, sink i1 low, input i2 low, sink s1 low, lock s2 low", "kind i1, kind s2, label i1, label s2")
	told(t, around, "level low, input i1 low, input i2 x, sink s1 y, sink s2 low", "level x, level y")
	told(t, "lock l ; chan c 1 ; var g int ; struct s { } func f ( ) { } thread t { }", "level low", "")
}

// P8.1: what a hatch's expression may have, and what not.
func TestHatches(t *testing.T) {
	with := func(expr, want string) {
		t.Helper()
		told(t, around, fits+", hatch k low 1, hatch h low "+expr+", hatch m low 2", want)
	}
	for _, expr := range []string{"0", "999999999999999999", "i1", "i2", "( - i1 )", "( - ( - 3 ) )", "( i1 + i2 )", "( i1 - 1 )", "( 2 * i2 )", "( i1 / 0 )", "( i1 % 10 )", "( ( - i1 ) * ( ( i2 + 1 ) / ( 7 - i1 ) ) )"} {
		with(expr, "")
	}
	for _, expr := range []string{"true", "false", "nil", "i1 . v", "i1 [ 1 ]", "i1 [ 1 : 2 ]", "len ( i1 )", "( ! i1 )", "( i1 & i2 )", "( i1 | i2 )", "( i1 < i2 )", "( i1 <= 1 )", "( 1 == i2 )", "( i1 != 1 )", "new n", "new none", "make ( 1 )", "release k", "release none"} {
		with(expr, "type h")
		with("( - "+expr+" )", "type h")
		with("( "+expr+" + 1 )", "type h")
		with("( 1 % ( i1 * "+expr+" ) )", "type h")
		with("( ! "+expr+" )", "type h")
		with("( i1 == ( "+expr+" - 1 ) )", "type h")
		with("i1 [ ( 1 / "+expr+" ) ]", "type h")
		with("len ( "+expr+" )", "type h")
	}
	for _, name := range []string{"z", "h", "k", "low", "x", "y", "v"} {
		for _, expr := range []string{"Z", "( - Z )", "( Z + Z )", "( 1 + ( i1 % Z ) )", "( ( Z - 1 ) * i2 )"} {
			with(strings.ReplaceAll(expr, "Z", name), "none "+name)
		}
		for _, expr := range []string{"( 1 < Z )", "Z . v", "i1 [ Z ]", "i1 [ Z : 1 ]", "i1 [ 1 : Z ]", "Z [ 1 ]", "len ( Z )", "make ( Z )", "( ! Z )", "( Z & 1 )"} {
			with(strings.ReplaceAll(expr, "Z", name), "none "+name+", type h")
		}
	}
	for _, name := range []string{"s1", "l1", "c1", "g1", "g2", "n", "f", "t"} {
		with(name, "kind "+name)
		with("( i1 + ( - "+name+" ) )", "kind "+name)
		with("( "+name+" < 1 )", "kind "+name+", type h")
	}
	with("( ( z + g1 ) * ( a - ( t / z ) ) )", "none a, none z, kind g1, kind t")
	with("( g1 . z [ a ] == true )", "none a, kind g1, type h")
	// Each hatch by itself; the name is the hatch's.
	told(t, around, fits+", hatch a low true, hatch b low 1, hatch c low nil, hatch a low 1, hatch d low ( z + q )", "twice a, none q, none z, type a, type c")
	told(t, around, fits+", hatch a low true, hatch a low ( 1 < 2 )", "twice a, type a")
}

// P8.1: levels that are no lattice, and what else is told beside them.
func TestOrder(t *testing.T) {
	none := "thread t { }"
	told(t, none, "", "order")
	told(t, none, "hatch h a 1", "level a")
	for lines, want := range map[string]string{
		"level a": "", "level a, edge a a": "", "level a, level b": "order", "level a, level b, edge a b": "", "level a, level b, edge b a": "", "level a, level b, edge a b, edge b a": "order",
		"level a, level b, level c, edge a b, edge b c, edge c a": "order", "level a, level b, level c, edge a b, edge a c": "order", "level a, level b, level c, edge b a, edge c a": "order", "level a, level b, level c, edge c a, edge a b": "",
		"level a, level b, level c, level d, edge a b, edge a c, edge b d, edge c d": "", "level d, level c, level b, level a, edge a b, edge a c, edge b d, edge c d": "", "level a, level b, level c, level d, edge a c, edge a d, edge b c, edge b d": "order",
		// Two least ones above two, and two greatest ones below two.
		"level a, level b, level c, level d, level e, level f, edge a b, edge a c, edge b d, edge b e, edge c d, edge c e, edge d f, edge e f":         "order",
		"level a, level b, level c, level d, level e, level f, level g, level h, edge a b, edge b c, edge c d, edge d e, edge e f, edge f g, edge g h": "",
	} {
		told(t, none, lines, want)
	}
	// What isn't ErrTwice or ErrLevel stands beside it.
	bad := "level low, level high, edge low high, edge high low, input i1 low, input i2 low, sink s1 low, sink s2 low"
	told(t, around, bad, "order")
	told(t, around, bad+", lock z low", "order, none z")
	told(t, around, bad+", lock g1 low", "order, kind g1")
	told(t, around, bad+", hatch h low ( 1 < z )", "order, none z, type h")
	told(t, around, strings.Replace(bad, ", sink s2 low", "", 1), "order, label s2")
	told(t, "thread t { var x int = @release h ; }", "level a, level b", "order|none h")
	// These hide it.
	for more, want := range map[string]string{"level low": "twice low", "sink s1 low": "twice s1", "lock z low, lock z high": "twice z, none z", "hatch h low 1, hatch h low 1": "twice h", "edge low x": "level x", "edge x low": "level x", "var g1 x": "level x", "hatch h x 1": "level x"} {
		told(t, around, bad+", "+more, want)
	}
	// A name that isn't a hatch's, or not an input's, hides nothing.
	told(t, around, bad+", hatch h low g1", "order, kind g1")
}

// P8.1: what the program releases.
func TestReleases(t *testing.T) {
	program := "sink o ; input i ; lock k ; chan c 1 ; var l [ ] int ; struct s { v int ; } " +
		"func f ( x int ) int { if ( @release a < 1 ) { return @release b ; } else { while ( 0 == release h ) { set x = l [ @release c ] ; } } var y int = len ( l [ 1 : ( - @release a ) ] ) ; return ( release h + @release d ) ; } " +
		"func g ( ) { call f ( @release e ) ; lock k ; send c @release b ; out o @release h2 ; unlock k ; set l [ @release hh ] = release h ; } " +
		"thread t { var x int = 0 ; call x = f ( ( 1 / @release x ) ) ; if true { if true { set l = make ( @release i ) ; } else { out o @release k ; } } recv c x ; } thread u { out o release h ; }"
	lines := "level a, input i a, sink o a, hatch h a 1"
	told(t, program, lines, "|none a|none b|none c|none a|none d|none e|none b|none h2|none hh|none x|none i|none k")
	told(t, program, lines+", hatch a a 1, hatch i a true, hatch z a 1, hatch b a i", "type i|||none c||none d|none e||none h2|none hh|none x||none k")
	// A hatch is there even where it is wrong, or there twice.
	told(t, "thread t { var x int = release h ; set x = release k ; set x = @release m ; }", "level a, hatch h a ( 1 < z ), hatch k b 1, hatch k a release m", "level b, twice k, none z, type h, type k|none m")
	// Where two stand at different places, both are told; hatches' own aren't the program's.
	told(t, "thread t { var x int = ( @release h + @release h ) ; }", "level a", "|none h|none h")
	told(t, "thread t { }", "level a, hatch h a release k", "type h")
}

// P8.1: the levels' numbers also where something is wrong.
func TestLevelsBeside(t *testing.T) {
	program := "input i ; sink s ; lock l ; chan c 1 ; var g int ; input j ; thread t { }"
	for lines, want := range map[string]string{
		"": "0 [] in [-1 -1] out [-1] lock [-1] chan [-1] var [-1] hatch []",
		"edge a b, input i a, lock l b, hatch h a 1": "0 [] in [-1 -1] out [-1] lock [-1] chan [-1] var [-1] hatch [-1]",
		"level a, level b, edge b a, edge a b":       "2 [[1 0] [0 1]] in [-1 -1] out [-1] lock [-1] chan [-1] var [-1] hatch []",
		// A name's first place counts.
		"level a, level b, level a, level c, level b, edge a b, edge b c, edge c a, input j b, sink s a, hatch h b 1, hatch k a 1, hatch m c 1": "5 [[0 1] [1 3] [3 0]] in [-1 1] out [0] lock [-1] chan [-1] var [-1] hatch [1 0 3]",
		"level a, level b, input i b, input i a, lock l a, lock l b, sink s x, sink s a, chan c b, chan c x, var g b, var g a":                  "2 [] in [1 -1] out [-1] lock [0] chan [1] var [1] hatch []",
		// Each hatch has its own.
		"level a, level b, hatch h b 1, hatch h a 1, hatch k x true, hatch h x 1": "2 [] in [-1 -1] out [-1] lock [-1] chan [-1] var [-1] hatch [1 0 -1 -1]",
		// Edges of names that aren't there are left out, the others keep their order.
		"level a, level b, edge x a, edge b a, edge a x, edge x y, edge a b, edge x x, edge a a": "2 [[1 0] [0 1] [0 0]] in [-1 -1] out [-1] lock [-1] chan [-1] var [-1] hatch []",
		// A label of another kind is none of it.
		"level a, lock i a, input l a, sink j a, var s a, chan g a, var c a, input j a": "1 [] in [-1 0] out [-1] lock [-1] chan [-1] var [-1] hatch []",
		"level a, lock z a, input h a, hatch z a nil":                                   "1 [] in [-1 -1] out [-1] lock [-1] chan [-1] var [-1] hatch [0]",
	} {
		levels(t, program, lines, want)
	}
}

// P8.1: by places, then codes, then names, each once.
func TestSorted(t *testing.T) {
	told(t, "input q ; sink b ; input a ; thread t { var x int = ( @release z + @release y ) ; set x = @release z ; }",
		"level m, level l, level m, level l, level m, edge m y, edge x m, sink c x, sink c y, lock b m, chan a l, lock d m, hatch n m ( d < a ), hatch h l ( c < b ), hatch n y nil",
		"level x, level y, twice c, twice l, twice m, twice n, none c, none d, kind a, kind b, type h, type n, label a, label b, label q|none z|none y|none z")
	// Places may be any, also in the program's releases alone.
	at := func(at int, name string) api.Stmt {
		return api.Stmt{Kind: api.SOut, Name: "o", Exprs: []api.Expr{{Kind: api.ERelease, At: at, Name: name}}}
	}
	p := api.Program{Decls: []api.Decl{{Kind: api.DSink, Name: "o"}, {Kind: api.DThread, Name: "t", Body: []api.Stmt{at(5, "b"), at(0, "a"), at(-1, "z"), at(5, "a"), at(0, "z"), at(5, "b"), at(-1, "z")}}}}
	want := []api.Diag{{At: -1, Code: 41, Name: "z"}, {Code: 31}, {Code: 41, Name: "a"}, {Code: 41, Name: "z"}, {Code: 60, Name: "o"}, {At: 5, Code: 41, Name: "a"}, {At: 5, Code: 41, Name: "b"}}
	if _, got := hatch.Fit(p, api.Policy{}); !slices.Equal(got, want) {
		t.Error(got)
	}
}
