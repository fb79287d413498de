package lower_test

import (
	"fmt"
	"reflect"
	"slices"
	"strings"
	"testing"

	"portcullis/api"
	"portcullis/code"
	"portcullis/lower"
	"portcullis/parse"
	"portcullis/sample"
	"portcullis/types"
)

// read: the tree of a text, which must have one; and its marks.
func read(t *testing.T, s string) (api.Program, []int) {
	t.Helper()
	s, marks := sample.Marked(s)
	p, at, e := parse.Program(s)
	if e != api.OK {
		t.Fatalf("%.300q: %d %d", s, at, e)
	}
	return p, marks
}

// lowered: the code of a text, which must have one; and its marks.
func lowered(t *testing.T, s string, hatches ...string) (api.Module, []int) {
	t.Helper()
	p, marks := read(t, s)
	m, e := lower.Lower(p, hatches)
	if e != api.OK || !code.Right(m) {
		t.Fatalf("%.300q: %d", s, e)
	}
	return m, marks
}

// brief: a function's code, as code.Show tells it, but without the fields that the kinds have no use for, and without Next, where it is the operation behind.
func brief(f api.Func) string {
	uses := strings.Fields("const:AK input:AB release:AB move:AB unary:ABK binary:ABCK load:ABK store:ABK new:AB make:ABC get:ABCK put:ABCK index:ABCD elem:ABCD cut:ABCDEF lock:A unlock:A send:AB recv:AB out:AB if:A call:ABK return:")
	var list []string
	for i, o := range f.Code {
		name, fields, _ := strings.Cut(uses[o.Kind-1], ":")
		for _, letter := range fields {
			name += fmt.Sprint(" ", map[rune]int{'A': o.A, 'B': o.B, 'C': o.C, 'D': o.D, 'E': o.E, 'F': o.F, 'K': o.K}[letter])
		}
		for _, r := range o.Args {
			name += fmt.Sprint(" r", r)
		}
		if o.Kind == api.OIf {
			name += fmt.Sprint(" > ", o.Next, " | ", o.Else)
		} else if o.Kind != api.OReturn && o.Next != i+1 {
			name += fmt.Sprint(" > ", o.Next)
		}
		list = append(list, name)
	}
	return strings.Join(list, "; ")
}

// ahead: things of all kinds, in no order of kinds. The global words: g 0, gs 1 and 2, gp 3, gb 4, gk 5.
const ahead = `func p ( ) { } sink oa ; lock la ; var g int ; struct e { } thread t0 { } input ia ; var gs [ ] int ; chan ca 1 ;
struct n { v int ; s [ ] int ; b bool ; next * n ; } func f ( a int , b [ ] int , c * n ) [ ] int { return b ; } var gp * n ; lock lb ; sink ob ; input ib ; var gb bool ;
chan cb 4 ; func h ( ) int { return 7 ; } struct k { w [ ] int ; x * k ; } input ic ; lock lc ; lock ld ; var gk * k ; func q ( x * n ) * n { } thread t1 { `

// last: the code of a thread's body behind ahead.
func last(t *testing.T, body string) string {
	t.Helper()
	m, _ := lowered(t, ahead+body+" }", "ha", "hb", "hc")
	return brief(m.Funcs[len(m.Funcs)-1])
}

// P11.1: what each expression and each statement becomes.
func TestParts(t *testing.T) {
	for body, want := range map[string]string{
		"":                                                 "",
		"out ob 5 ;":                                       "const 0 5; out 1 0",
		"out oa 999999999999999999 ;":                      "const 0 999999999999999999; out 0 0",
		"var x int = 5 ; var y int = x ;":                  "const 2 5; move 0 2; move 1 0",
		"var x bool = true ; set x = false ;":              "const 1 1; move 0 1; const 2 0; move 0 2",
		"var x * n = nil ; set x = gp ;":                   "const 1 0; move 0 1; load 2 3 0; move 0 2",
		"out oa ib ; out oa ia ; set g = ic ;":             "input 0 1; out 0 0; input 1 0; out 0 1; input 2 2; store 0 2 0",
		"out oa release hb ; out ob release ha ;":          "release 0 1; out 0 0; release 1 0; out 1 1",
		"set g = ( - ia ) ;":                               "input 0 0; unary 1 0 1; store 0 1 0",
		"set gb = ( ! gb ) ;":                              "load 0 4 0; unary 1 0 2; store 4 1 0",
		"set gs = gs ;":                                    "load 0 1 0; load 1 2 1; store 1 0 0; store 2 1 1",
		"set gp = nil ; set gk = new k ; set gp = new n ;": "const 0 0; store 3 0 0; new 1 2; store 5 1 0; new 2 1; store 3 2 0",
		"set gs = gs [ 1 : g ] ;":                          "load 0 1 0; load 1 2 1; const 2 1; load 3 0 0; cut 4 5 0 1 2 3; store 1 4 0; store 2 5 1",
		"out oa gs [ ib ] ;":                               "load 0 1 0; load 1 2 1; input 2 1; index 3 0 1 2; out 0 3",
		"var s [ ] int = make ( 3 ) ; out oa len ( s ) ; out oa len ( gs ) ;":           "const 2 3; make 3 4 2; move 0 3; move 1 4; out 0 1; load 5 1 0; load 6 2 1; out 0 6",
		"var s [ ] int = gs ; var x int = s [ s [ 0 ] ] ; set s = s [ x : x ] ;":        "load 3 1 0; load 4 2 1; move 0 3; move 1 4; const 5 0; index 6 0 1 5; index 7 0 1 6; move 2 7; cut 8 9 0 1 2 2; move 0 8; move 1 9",
		"out oa gp . next . next . v ;":                                                 "load 0 3 0; get 1 0 4 0; get 2 1 4 0; get 3 2 0 0; out 0 3",
		"set gs = new n . s ;":                                                          "new 0 1; get 1 0 1 0; get 2 0 2 1; store 1 1 0; store 2 2 1",
		"set gp . v = gp . next . s [ 0 ] ;":                                            "load 0 3 0; load 1 3 0; get 2 1 4 0; get 3 2 1 0; get 4 2 2 1; const 5 0; index 6 3 4 5; put 0 0 6 0",
		"set gp . s = gs ;":                                                             "load 0 3 0; load 1 1 0; load 2 2 1; put 0 1 1 0; put 0 2 2 1",
		"set gp . next . next = nil ; set gp . b = gb ;":                                "load 0 3 0; get 1 0 4 0; const 2 0; put 1 4 2 0; load 3 3 0; load 4 4 0; put 3 3 4 0",
		"var y * k = gk ; set y . w = y . x . w ; set y . x = y ;":                      "load 1 5 0; move 0 1; get 2 0 2 0; get 3 2 0 0; get 4 2 1 1; put 0 0 3 0; put 0 1 4 1; put 0 2 0 0",
		"set gs [ ia ] = ib ;":                                                          "load 0 1 0; load 1 2 1; input 2 0; input 3 1; elem 0 1 2 3",
		"set make ( 1 ) [ 0 : 1 ] [ 0 ] = 2 ;":                                          "const 0 1; make 1 2 0; const 3 0; const 4 1; cut 5 6 1 2 3 4; const 7 0; const 8 2; elem 5 6 7 8",
		"lock lb ; unlock lc ; lock la ; unlock ld ;":                                   "lock 1; unlock 2; lock 0; unlock 3",
		"var x int = 0 ; recv cb x ; send ca x ; send cb ia ;":                          "const 1 0; move 0 1; recv 0 1; send 0 0; input 2 0; send 1 2",
		"var x int = 1 ; call x = h ( ) ; call h ( ) ; call p ( ) ;":                    "const 1 1; move 0 1; call 2 0 1; call 2 -1 0; call 0 -1 0",
		"var s [ ] int = gs ; call s = f ( g , s , nil ) ; call f ( 1 , gs , gp ) ;":    "load 2 1 0; load 3 2 1; move 0 2; move 1 3; load 4 0 0; const 5 0; call 1 0 2 r4 r0 r1 r5; const 6 1; load 7 1 0; load 8 2 1; load 9 3 0; call 1 -1 0 r6 r7 r8 r9",
		"var z int = 1 ; var x * n = nil ; call x = q ( x ) ;":                          "const 2 1; move 0 2; const 3 0; move 1 3; call 3 1 1 r1",
		"return ; return ;":                                                             "return; return",
		"var x int = 1 ; if ( x < 2 ) { var y [ ] int = gs ; } var z int = len ( y ) ;": "const 4 1; move 0 4; const 5 2; binary 6 0 5 8; if 6 > 5 | 9; load 7 1 0; load 8 2 1; move 1 7; move 2 8; move 3 2",
	} {
		got := last(t, body)
		if want = strings.TrimPrefix(want+"; return", "; "); got != want {
			t.Errorf("%s\n%s, want\n%s", body, got, want)
		}
	}
	for k, sign := range strings.Fields("+ - * / % & | < <= == !=") {
		place, operands := "gb", "gb %s gb"
		if k < 5 {
			place = "g"
		}
		if k != 5 && k != 6 {
			operands = "ia %s ib"
		}
		want := fmt.Sprintf("load 0 4 0; load 1 4 0; binary 2 0 1 %d; store %d 2 0; return", k+1, map[string]int{"g": 0, "gb": 4}[place])
		if k != 5 && k != 6 {
			want = strings.Replace(want, "load 0 4 0; load 1 4 0", "input 0 0; input 1 1", 1)
		}
		if got := last(t, "set "+place+" = ( "+fmt.Sprintf(operands, sign)+" ) ;"); got != want {
			t.Error(sign, got, want)
		}
	}
}

// P11.1: where each operation goes on.
func TestWays(t *testing.T) {
	for body, want := range map[string]string{
		"if gb { } lock la ;":                    "load 0 4 0; if 0 > 2 | 2; lock 0; return",
		"if gb { }":                              "load 0 4 0; if 0 > 2 | 2; return",
		"if gb { lock la ; } lock lb ;":          "load 0 4 0; if 0 > 2 | 3; lock 0; lock 1; return",
		"if gb { } else { lock la ; } lock lb ;": "load 0 4 0; if 0 > 3 | 2; lock 0; lock 1; return",
		"if gb { lock la ; } else { lock lb ; }": "load 0 4 0; if 0 > 2 | 3; lock 0 > 4; lock 1; return",
		"if gb { if gb { lock la ; } else { lock lb ; } } else { unlock la ; }": "load 0 4 0; if 0 > 2 | 6; load 1 4 0; if 1 > 4 | 5; lock 0 > 7; lock 1 > 7; unlock 0; return",
		"if gb { if gb { } } else { lock la ; }":                                "load 0 4 0; if 0 > 2 | 4; load 1 4 0; if 1 > 5 | 5; lock 0; return",
		"if gb { if gb { } else { lock lb ; } } else { lock la ; }":             "load 0 4 0; if 0 > 2 | 5; load 1 4 0; if 1 > 6 | 4; lock 1 > 6; lock 0; return",
		"if gb { lock la ; } else { if gb { lock lb ; } } lock lc ;":            "load 0 4 0; if 0 > 2 | 3; lock 0 > 6; load 1 4 0; if 1 > 5 | 6; lock 1; lock 2; return",
		"while gb { }":                                                "load 0 4 0; if 0 > 0 | 2; return",
		"var x bool = true ; while x { }":                             "const 1 1; move 0 1; if 0 > 2 | 3; return",
		"var x bool = true ; while x { lock la ; }":                   "const 1 1; move 0 1; if 0 > 3 | 4; lock 0 > 2; return",
		"while gb { lock la ; } unlock la ;":                          "load 0 4 0; if 0 > 2 | 3; lock 0 > 0; unlock 0; return",
		"while gb { while gb { } }":                                   "load 0 4 0; if 0 > 2 | 4; load 1 4 0; if 1 > 2 | 0; return",
		"while gb { while gb { lock la ; } lock lb ; }":               "load 0 4 0; if 0 > 2 | 6; load 1 4 0; if 1 > 4 | 5; lock 0 > 2; lock 1 > 0; return",
		"while gb { if gb { lock la ; } else { lock lb ; } }":         "load 0 4 0; if 0 > 2 | 6; load 1 4 0; if 1 > 4 | 5; lock 0 > 0; lock 1 > 0; return",
		"while gb { if gb { } }":                                      "load 0 4 0; if 0 > 2 | 4; load 1 4 0; if 1 > 0 | 0; return",
		"while gb { if gb { } else { lock la ; } }":                   "load 0 4 0; if 0 > 2 | 5; load 1 4 0; if 1 > 0 | 4; lock 0 > 0; return",
		"while gb { if gb { while gb { } } else { lock la ; } }":      "load 0 4 0; if 0 > 2 | 7; load 1 4 0; if 1 > 4 | 6; load 2 4 0; if 2 > 4 | 0; lock 0 > 0; return",
		"if gb { while gb { } } else { while gb { } } lock la ;":      "load 0 4 0; if 0 > 2 | 4; load 1 4 0; if 1 > 2 | 6; load 2 4 0; if 2 > 4 | 6; lock 0; return",
		"var x bool = gb ; if x { while x { } } else { while x { } }": "load 1 4 0; move 0 1; if 0 > 3 | 4; if 0 > 3 | 5; if 0 > 4 | 5; return",
		"while gb { return ; lock la ; }":                             "load 0 4 0; if 0 > 2 | 4; return; lock 0 > 0; return",
		"while gb { return ; }":                                       "load 0 4 0; if 0 > 2 | 3; return; return",
		"if gb { return ; } else { return ; }":                        "load 0 4 0; if 0 > 2 | 3; return; return; return",
	} {
		if got := last(t, body); got != want {
			t.Errorf("%s\n%s, want\n%s", body, got, want)
		}
	}
}

// P11.1: all that stands beside operations.
func TestModule(t *testing.T) {
	m, _ := lowered(t, ahead+"var x [ ] int = gs ; }", "hb", "ha", "hb")
	want := api.Module{
		Globals: []api.Sized{{Name: "g", Size: 1}, {Name: "gs", Size: 2}, {Name: "gp", Size: 1}, {Name: "gb", Size: 1}, {Name: "gk", Size: 1}},
		Structs: []api.Sized{{Name: "e"}, {Name: "n", Size: 5}, {Name: "k", Size: 3}},
		Chans:   []api.Sized{{Name: "ca", Size: 1}, {Name: "cb", Size: 4}},
		Locks:   []string{"la", "lb", "lc", "ld"}, Inputs: []string{"ia", "ib", "ic"}, Sinks: []string{"oa", "ob"}, Hatches: []string{"hb", "ha", "hb"},
		Threads: []int{4, 5},
	}
	funcs := m.Funcs
	m.Funcs = nil
	if !reflect.DeepEqual(m, want) {
		t.Error(m)
	}
	for i, c := range []struct {
		name                 string
		params, regs, result int
		code                 string
	}{
		{"p", 0, 0, 0, "return"},
		{"f", 4, 6, 2, "return r1 r2; const 4 0; const 5 0; return r4 r5"},
		{"h", 0, 2, 1, "const 0 7; return r0; const 1 0; return r1"},
		{"q", 1, 2, 1, "const 1 0; return r1"},
		{"t0", 0, 0, 0, "return"},
		{"t1", 0, 4, 0, "load 2 1 0; load 3 2 1; move 0 2; move 1 3; return"},
	} {
		if f := funcs[i]; f.Name != c.name || f.Params != c.params || f.Regs != c.regs || f.Result != c.result || brief(f) != c.code {
			t.Error(i, f.Name, f.Params, f.Regs, f.Result, brief(f))
		}
	}
	if len(funcs) != 6 {
		t.Error(len(funcs))
	}
	// Of hatches of one name the first one counts.
	m, _ = lowered(t, "sink o ; thread t { out o release b ; out o release a ; }", "a", "b", "a", "b", "")
	if got := brief(m.Funcs[0]); got != "release 0 1; out 0 0; release 1 0; out 0 1; return" {
		t.Error(got)
	}
}

// P11.1: where operations come from: of each the mark.
func TestPlaces(t *testing.T) {
	for s, want := range map[string]string{
		"func @f ( ) [ ] int { @lock l ; }":                             "1 0 0 0",
		"thread @t { @return ; }":                                       "1 0",
		"thread @t { @out o @( @1 + @( - @i ) ) ; }":                    "3 5 4 2 1 0",
		"thread @t { @set @g [ @i ] = @g @[ @2 ] ; }":                   "2 2 3 4 4 6 5 1 0",
		"thread @t { @set @g = @g @[ @2 : @i ] ; }":                     "3 3 5 6 4 1 1 0",
		"thread @t { @set @p @. n @. n . s = @make ( @1 ) ; }":          "2 3 4 6 5 1 1 0",
		"thread @t { @var x [ ] int = @p @. s ; @set x = x ; }":         "2 3 3 1 1 4 4 0",
		"thread @t { @if @( @nil == @p ) { @unlock l ; } }":             "3 4 2 1 5 0",
		"thread @t { @while @true { @send c len ( @g ) ; } }":           "2 1 4 4 3 0",
		"thread @t { @call u ( @new n , @release h , @g ) ; }":          "2 3 4 4 1 0",
		"thread @t { @var x int = @0 ; @recv c x ; @call x = v ( ) ; }": "2 1 3 4 0",
		"func @f ( x int ) int { @return x ; }":                         "1 0 0",
	} {
		text := "sink o ; lock l ; input i ; chan c 1 ; struct n { n * n ; s [ ] int ; } var g [ ] int ; var p * n ; func u ( x * n , y int , z [ ] int ) { } func v ( ) int { } "
		m, marks := lowered(t, text+s, "h")
		var got []string
		for _, o := range m.Funcs[len(m.Funcs)-1].Code {
			got = append(got, fmt.Sprint(slices.Index(marks, o.At)))
		}
		if strings.Join(got, " ") != want {
			t.Error(s, got, want)
		}
	}
}

// P11.1: programs of all sorts become what the chapter's words make of their texts.
func TestModel(t *testing.T) {
	counts := map[api.Errno]int{}
	for seed := range uint64(2400) {
		s := sample.Program(seed, []int{0, 0, 0, 400}[seed%4])
		p, _ := read(t, s)
		hatches := [][]string{{"h0", "h1", "h2"}, {"x", "h2", "h0", "h1", "h0", "", "y", "z"}, {"h2", "h0"}, {"h0", "h1", "h2", "h3", "h4", "h5", "h6", "h7", "h8"}}[seed/4%4]
		missing := slices.ContainsFunc([]string{"h0", "h1", "h2"}, func(name string) bool {
			return strings.Contains(s, "release "+name) && !slices.Contains(hatches, name)
		})
		want, wantErr := api.Module{}, api.OK
		switch {
		case len(types.Check(p)) > 0:
			wantErr = api.ErrType
		case missing:
			wantErr = api.ErrNone
		case len(hatches) > 8:
			wantErr = api.ErrMany
		default:
			want = modelled(s, hatches)
		}
		got, e := lower.Lower(p, hatches)
		counts[e]++
		if e != wantErr || !alike(got, want) {
			t.Fatalf("%d: %q: %d, want %d:\n%+v, want\n%+v", seed, s, e, wantErr, got, want)
		}
	}
	if counts[api.OK] < 1000 || counts[api.ErrType] < 50 || counts[api.ErrNone] < 50 || counts[api.ErrMany] < 200 {
		t.Error("the texts are all of one sort", counts)
	}
}

// alike: are they the same, whatever lists without elements are?
func alike(a, b api.Module) bool { return fmt.Sprintf("%+v", a) == fmt.Sprintf("%+v", b) }
