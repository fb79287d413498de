package guard_test

import (
	"fmt"
	"math/rand/v2"
	"slices"
	"strings"
	"testing"

	"portcullis/api"
	"portcullis/guard"
	"portcullis/machine"
	"portcullis/points"
	"portcullis/sample"
	"portcullis/watch"
)

// run is a machine of a text's code, and what was found of that.
type run struct {
	t     *testing.T
	text  string
	m     api.Module
	found map[api.Place]api.Guarded
	sites []api.Site
	clean bool // is nothing told of the code?
	x     *machine.Machine
	met   map[string]int // what was seen
}

// kept is what is found of a text's code, ahead of all its runs.
func kept(t *testing.T, text string, met map[string]int) run {
	t.Helper()
	m := sample.Lowered(text)
	r := run{t: t, text: text, m: m, found: map[api.Place]api.Guarded{}, clean: len(guard.Check(m)) == 0, met: met}
	for _, g := range find(t, m) {
		r.found[g.Place] = g
	}
	p, _ := points.Find(m)
	r.sites = p.Sites
	return r
}

// run: a machine runs by a row of picks.
func (r run) run(picks ...int) {
	r.t.Helper()
	r.x = sample.Begun(r.m)
	for _, thread := range picks {
		r.look()
		if e := r.x.Step(thread); e != api.OK {
			r.t.Fatal(e)
		}
	}
	r.look()
}

// look: what is seen now mustn't be seen, where nothing is told; and it is held against what was found.
func (r run) look() {
	r.t.Helper()
	s := r.x.State()
	seen := watch.Look(r.m, s)
	for what, is := range map[string]bool{"race": len(seen.Races) > 0, "torn": seen.Torn, "wild": seen.Wild} {
		if is && r.clean {
			r.t.Fatalf("tick %d: %s, where all is guarded: %q", s.Tick, what, r.text)
		}
		if is {
			r.met[what]++
		}
	}
	for thread := range s.Threads {
		if place, writes, touches := watch.Touch(r.m, s, thread); touches && !s.Torn && !s.Wild {
			r.hold(s, thread, place, writes)
		}
	}
}

// hold: what a thread is about to touch was found, with the thread, and with no lock but such that it holds.
func (r run) hold(s api.State, thread, place int, writes bool) {
	r.t.Helper()
	o, _ := r.x.Next(thread)
	g, met := r.found[r.place(s, place, o)]
	for lock, holder := range s.Holders {
		if g.Locks>>lock&1 == 1 && holder != thread {
			r.t.Fatalf("thread %d touches %+v without the lock %d: %q", thread, g, lock, r.text)
		}
	}
	if !met || g.Threads>>thread&1 == 0 || writes && !g.Writes || o.At < g.At {
		r.t.Fatalf("thread %d touches %+v by %+v: %q", thread, g, o, r.text)
	}
	word := []string{"", "global", "word", "elements"}[g.Place.Kind]
	if g.Writes && g.Threads&(g.Threads-1) != 0 && r.clean {
		r.met[word]++
	}
}

// place: the place that has a word which an operation is about to touch.
func (r run) place(s api.State, word int, o api.Op) api.Place {
	if word < 0 {
		return api.Place{Kind: 1, A: -1 - word}
	}
	site := slices.Index(r.sites, sample.Maker(s, word))
	switch o.Kind {
	case api.OGet:
		return api.Place{Kind: 2, A: site, B: o.C}
	case api.OPut:
		return api.Place{Kind: 2, A: site, B: o.B}
	}
	return api.Place{Kind: 3, A: site}
}

// enough: each thing was met as often as is told, at least.
func enough(t *testing.T, met, least map[string]int) {
	t.Helper()
	for what, want := range least {
		if met[what] < want {
			t.Error(what, met[what], want)
		}
	}
}

const ahead = "struct n { v int ; next * n ; s [ ] int ; } sink o ; lock a ; lock b ; lock c ; var g int ; var p * n ; var q * n ; var s [ ] int ; func f ( z * n ) { if ( z != nil ) { set z . v = ( z . v + 1 ) ; } } "

// P19.3: programs by hand, in all orders of two threads. Without locks they are told of, and what must never be seen is seen in some of the orders; with TAKE and DROP it isn't in any.
func TestHands(t *testing.T) {
	for text, bad := range map[string]string{
		"thread x { TAKE set g = 1 ; DROP } thread y { TAKE set g = 2 ; DROP }":                                             "race",
		"thread x { TAKE set g = ( g + 1 ) ; DROP } thread y { TAKE out o g ; DROP }":                                       "race",
		"thread x { TAKE set s = make ( 2 ) ; DROP } thread y { TAKE out o len ( s ) ; DROP }":                              "torn",
		"thread x { TAKE set s = make ( 2 ) ; DROP } thread y { TAKE set s = make ( 1 ) ; DROP }":                           "race",
		"thread x { TAKE set s = make ( 3 ) ; DROP TAKE set s = make ( 1 ) ; DROP } thread y { TAKE out o s [ 1 ] ; DROP }": "wild",
		"thread x { TAKE set p = new n ; set p . v = 1 ; DROP } thread y { TAKE if ( p != nil ) { set p . v = 2 ; } DROP }": "race",
		"thread x { TAKE set p = new n ; set p . s = make ( 1 ) ; DROP } thread y { TAKE out o len ( p . s ) ; DROP }":      "torn",
		"thread x { TAKE set p = new n ; call f ( p ) ; DROP } thread y { TAKE call f ( p ) ; DROP }":                       "race",
	} {
		met := map[string]int{}
		for _, words := range []*strings.Replacer{strings.NewReplacer("TAKE", "", "DROP", ""), strings.NewReplacer("TAKE", "lock a ;", "DROP", "unlock a ;")} {
			r := kept(t, ahead+words.Replace(text), met)
			if r.clean != strings.Contains(r.text, "unlock") {
				t.Errorf("%v: %q", r.clean, r.text)
			}
			sample.Orders(8, 5, func(picks []int) {
				r.run(append(slices.Clone(picks), 0, 0, 0, 0, 1, 1, 1, 1, 1, 1)...)
			})
		}
		if met[bad] == 0 || met["global"] == 0 {
			t.Errorf("%v: %q", met, text)
		}
	}
}

// deeds are statements, each with what it touches ahead of ":": global words by the globals' names, words of objects by v, elements by e.
func deeds() []string {
	return []string{
		"p: set p = new n ; set y = p ;", "q: set q = new n ;", "s: set s = make ( 3 ) ; set w = s ;", "g: set g = ( g + 1 ) ;",
		"g: out o g ;", "pq: set p = q ;", "pq: if ( q == nil ) { set q = p ; }", "s: out o len ( s ) ;",
		"pv: if ( p != nil ) { set p . v = 3 ; }", "pv: call f ( p ) ;", "qv: if ( q != nil ) { out o q . v ; }", "pqv: if ( p != nil ) { set p . next = q ; }", "qv: if ( q != nil ) { set q = q . next ; }",
		"es: if ( 1 < len ( s ) ) { set s [ 1 ] = 2 ; out o s [ 0 ] ; }", "psv: if ( p != nil ) { set p . s = s ; }", "qsv: if ( q != nil ) { set s = q . s ; }", "s: if ( 1 < len ( s ) ) { set s = s [ 0 : 1 ] ; }",
		"p: set y = p ;", "q: set q = y ;", "v: if ( y != nil ) { set y . v = ( y . v + 1 ) ; }", "v: call f ( y ) ;", "s: set w = s ;", "e: if ( 0 < len ( w ) ) { out o w [ 0 ] ; set w [ 0 ] = 1 ; }",
		": set x = new n ; set x . v = 2 ; out o x . v ;", ": var own [ ] int = make ( 2 ) ; set own [ 1 ] = 1 ; out o own [ 1 ] ;",
	}
}

// keeper is a program's text in which all deeds are done with the locks of what they touch, but that one of so many forgets one, if slips isn't 0.
func keeper(r *rand.Rand, slips int) string {
	locks := map[byte]string{}
	for _, what := range []byte("gpqsve") {
		locks[what] = string("abc"[r.IntN(3)])
	}
	text := ahead
	for i := range 2 + r.IntN(2) {
		text += fmt.Sprint("thread t", i, " { var x * n = nil ; var y * n = nil ; var w [ ] int = make ( 0 ) ; ")
		for k := range 4 + r.IntN(8) {
			list := deeds()
			if k < 2 {
				list = list[:4]
			}
			touched, deed, _ := strings.Cut(list[r.IntN(len(list))], ":")
			var take, drop []string
			for what := range len(touched) {
				take = append(take, locks[touched[what]])
			}
			slices.Sort(take)
			take = slices.Compact(take)
			if slips > 0 && len(take) > 0 && r.IntN(slips) == 0 {
				take = take[1:]
			}
			for n, lock := range take {
				take[n], drop = "lock "+lock+" ;", append(drop, "unlock "+lock+" ;")
			}
			deed = strings.ReplaceAll(deed, "own", fmt.Sprint("own", k))
			text += strings.Join(take, " ") + deed + " " + strings.Join(drop, " ") + " "
		}
		text += "} "
	}
	return text
}

// P19.3: programs that hardly do anything but share, with their locks and without some of them, and programs of all sorts, whose threads are picked by chance.
func TestChance(t *testing.T) {
	r := rand.New(rand.NewPCG(19, 3))
	met := map[string]int{}
	for seed := range uint64(600) {
		text := keeper(r, []int{0, 0, 20, 5}[seed%4])
		if seed%10 == 9 {
			text = sample.Program(seed, 0)
		}
		one := kept(t, text, met)
		met[fmt.Sprint(one.clean)]++
		for range 2 {
			var picks []int
			for range 60 * len(one.m.Threads) {
				picks = append(picks, r.IntN(len(one.m.Threads)))
			}
			one.run(picks...)
		}
	}
	enough(t, met, map[string]int{"true": 250, "false": 120, "global": 20000, "word": 800, "elements": 200, "race": 80, "torn": 150})
}

// P19.1, P19.2, P1: code as great as may be: all threads touch all words of what all have made.
func TestGreat(t *testing.T) {
	const news = 150
	ops := slices.Repeat([]api.Op{{Kind: api.ONew}}, news)
	ops = append(ops, api.Op{Kind: api.OStore}, api.Op{Kind: api.OLoad})
	for i := 0; len(ops) < 4095; i++ {
		ops = append(ops, api.Op{Kind: []int{api.OGet, api.OPut}[i%2], B: i % 2 * (i / 2 % 16), C: (1 - i%2) * (i / 2 % 16)})
	}
	ops = append(ops, api.Op{Kind: api.OReturn})
	for i := range ops[:4095] {
		ops[i].Next, ops[i].At = i+1, -i
	}
	m := api.Module{Globals: []api.Sized{{Name: "g", Size: 1}}, Structs: []api.Sized{{}}, Threads: make([]int, 4), Funcs: []api.Func{{Regs: 1, Code: ops}}}
	list := find(t, m)
	if len(list) != 1+4*news*16 {
		t.Fatal(len(list))
	}
	for i, g := range list[1:] {
		if g.Place != (api.Place{Kind: 2, A: i / 16, B: i % 16}) || g.Threads != 15 || g.Locks != 0 || !g.Writes || g.At > -4000 {
			t.Fatalf("%d: %+v", i, g)
		}
	}
	diags := guard.Check(m)
	if len(diags) != 17 || diags[0] != (api.Diag{At: -4094, Code: api.ErrRace}) || diags[16] != (api.Diag{At: -news - 1, Code: api.ErrRace, Name: "g"}) {
		t.Error(diags)
	}
}
