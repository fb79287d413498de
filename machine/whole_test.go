package machine_test

import (
	"fmt"
	"math/rand/v2"
	"slices"
	"strings"
	"testing"

	"portcullis/api"
	"portcullis/machine"
	"portcullis/sample"
)

// outcome: what sinks were told, each a tick, a thread, a sink and a value; then the faults, and the tick.
func outcome(s api.State) string {
	text := ""
	for _, e := range s.Events {
		text += fmt.Sprint(e.Tick, ":", e.Thread, e.Sink, "=", e.Value, " ")
	}
	for _, t := range s.Threads {
		text += fmt.Sprint("!", t.Fault)
	}
	return strings.Replace(text, "!", "| !", 1)
}

// P15.1, P5: programs by hand, with one thread: what they tell, and when. The inputs are 5 and -3, the hatches give 42 to 44.
func TestPrograms(t *testing.T) {
	const ahead = "sink o ; sink q ; input i ; input j ; lock l ; chan c 3 ; struct n { v int ; s [ ] int ; next * n ; b bool ; } var g int ; var gs [ ] int ; var p * n ; "
	for text, want := range map[string]string{
		"thread t { out o ( 1 + 2 ) ; }":                                                                                                                                                             "3:0 0=3 | !0",
		"thread t { out q i ; out o j ; }":                                                                                                                                                           "1:0 1=5 3:0 0=-3 | !0",
		"thread t { out o release h1 ; out o release h0 ; out o release h2 ; }":                                                                                                                      "1:0 0=43 3:0 0=42 5:0 0=44 | !0",
		"thread t { out o ( ( i * j ) - 7 ) ; out o ( i / j ) ; out o ( i % j ) ; out o ( - j ) ; }":                                                                                                 "5:0 0=-22 9:0 0=-1 13:0 0=2 16:0 0=3 | !0",
		"thread t { var x int = i ; while ( 0 < x ) { out o x ; set x = ( x - 2 ) ; } out q x ; }":                                                                                                   "5:0 0=5 12:0 0=3 19:0 0=1 26:0 1=-1 | !0",
		"thread t { if ( i < j ) { out o 1 ; } else { out q 2 ; } if ( j <= i ) { out o 3 ; } out o 4 ; }":                                                                                           "5:0 1=2 11:0 0=3 13:0 0=4 | !0",
		"thread t { set g = 7 ; out o g ; set gs = make ( 4 ) ; set gs [ 3 ] = g ; out o gs [ 3 ] ; out o len ( gs ) ; }":                                                                            "3:0 0=7 17:0 0=7 20:0 0=4 | !0",
		"thread t { set p = new n ; set p . v = 3 ; set p . next = new n ; set p . next . next = p ; out o p . next . next . v ; }":                                                                  "16:0 0=3 | !0",
		"thread t { var s [ ] int = make ( 6 ) ; set s [ 4 ] = 9 ; var r [ ] int = s [ 2 : 6 ] [ 1 : 3 ] ; out o r [ 1 ] ; out o len ( r ) ; set r [ 1 ] = 8 ; out o s [ 4 ] ; }":                    "17:0 0=9 18:0 0=2 24:0 0=8 | !0",
		"func f ( x int , s [ ] int ) [ ] int { set s [ x ] = x ; return s [ x : len ( s ) ] ; } thread t { var s [ ] int = make ( 3 ) ; call s = f ( 1 , s ) ; out o s [ 0 ] ; out q len ( s ) ; }": "11:0 0=1 12:0 1=2 | !0",
		"func f ( ) int { } thread t { var x int = 8 ; call x = f ( ) ; out o x ; call f ( ) ; out o 1 ; }":                                                                                          "5:0 0=0 10:0 0=1 | !0",
		"func f ( x int ) { out o x ; call f ( ( x + 1 ) ) ; } thread t { call f ( 1 ) ; }":                                                                                                          "2:0 0=1 6:0 0=2 10:0 0=3 14:0 0=4 18:0 0=5 22:0 0=6 26:0 0=7 | !5",
		"thread t { send c 4 ; send c 5 ; var x int = 0 ; recv c x ; out o x ; recv c x ; out o x ; recv c x ; out o x ; }":                                                                          "7:0 0=4 9:0 0=5 | !0",
		"thread t { lock l ; unlock l ; lock l ; lock l ; out o 1 ; }":                                                                                                                               "| !0",
		"thread t { out o 1 ; unlock l ; out o 2 ; }":                                                                                                                                                "1:0 0=1 | !6",
		"thread t { out o 1 ; out o ( 1 / ( i - i ) ) ; out o 2 ; }":                                                                                                                                 "1:0 0=1 | !1",
		"thread t { var x * n = new n ; out o x . v ; set x = x . next ; out o 1 ; out o x . v ; out o 2 ; }":                                                                                        "3:0 0=0 7:0 0=1 | !2",
		"thread t { var x * n = nil ; if ( x == nil ) { out o 1 ; } if ( p != nil ) { out o 2 ; } set x = new n ; if ( x == p ) { out o 3 ; } }":                                                     "6:0 0=1 | !0",
		"thread t { while true { set p = new n ; out o g ; set g = ( g + 1 ) ; } }":                                                                                                                  "5:0 0=0 15:0 0=1 25:0 0=2 35:0 0=3 45:0 0=4 55:0 0=5 65:0 0=6 75:0 0=7 85:0 0=8 95:0 0=9 105:0 0=10 115:0 0=11 | !4",
		"thread t { out o gs [ 0 ] ; }": "| !3",
	} {
		m := sample.Lowered(ahead + text)
		b := begin(t, m, []int{5, -3}, []int{42, 43, 44})
		b.run(make([]int, 150)...)
		if got := outcome(b.x.State()); got != want {
			t.Errorf("%s\n%s, want\n%s", text, got, want)
		}
	}
}

// P15.1, P15.2: a slice that one thread sets while another loads it is torn for some picks; with a lock around both, for none.
func TestTorn(t *testing.T) {
	for guard, want := range map[string]bool{"": true, "lock l ;": false} {
		open := strings.Replace(guard, "lock", "unlock", 1)
		s := "lock l ; sink o ; var g [ ] int ; thread a { " + guard + " set g = make ( 2 ) ; " + open + " } thread b { " + guard + " out o g [ 0 ] ; " + open + " }"
		m := sample.Lowered(s)
		torn, told, wrong := 0, 0, 0
		sample.Orders(7, 8, func(picks []int) {
			x, e := machine.New(m, nil, make([]int, 3))
			if e != api.OK || x.Run(picks...) != api.OK {
				t.Fatal(e)
			}
			s := x.State()
			if s.Torn {
				torn++
			}
			told += len(s.Events)
			if s.Wild || s.Threads[0].Fault != 0 || s.Threads[1].Fault == api.FWild && !s.Torn {
				wrong++
			}
		})
		if torn > 0 != want || told == 0 || wrong > 0 {
			t.Errorf("%q: %d torn, %d told, %d wrong", guard, torn, told, wrong)
		}
	}
}

// P15.1: of two threads that take two locks in unlike orders, some picks leave both waiting; in one order none do.
func TestLocks(t *testing.T) {
	for second, want := range map[string]bool{"lock k ; lock l ;": true, "lock l ; lock k ;": false} {
		m := sample.Lowered("lock l ; lock k ; sink o ; var g int ; thread a { lock l ; lock k ; set g = 1 ; unlock k ; unlock l ; } thread b { " + second + " out o g ; unlock l ; unlock k ; }")
		stuck, both := 0, 0
		sample.Orders(7, 7, func(picks []int) {
			x, _ := machine.New(m, nil, make([]int, 3))
			x.Run(picks...)
			if x.Blocked(0) && x.Blocked(1) {
				stuck++
			}
			x.Run(slices.Repeat([]int{0, 1, 1, 0}, 7)...)
			if x.Ended(0) && x.Ended(1) {
				both++
			} else if !x.Blocked(0) || !x.Blocked(1) {
				t.Error(picks, told(x.State()))
			}
		})
		if stuck > 0 != want || both == 0 || !want && both != 3432 {
			t.Errorf("%s %d %d", second, stuck, both)
		}
	}
}

// P15.1: programs of all sorts, whose threads are picked by chance, against the model.
func TestSamples(t *testing.T) {
	r := maker{rand.New(rand.NewPCG(15, 7))}
	events := 0
	for seed := range uint64(400) {
		m := sample.Lowered(sample.Program(seed, 0))
		b := begin(t, m, r.numbers(len(m.Inputs)), r.numbers(3))
		for range 60 * len(m.Threads) {
			b.run(r.IntN(len(m.Threads)))
		}
		events += len(b.m.Events)
	}
	if events < 100 {
		t.Error("hardly anything is told", events)
	}
}
