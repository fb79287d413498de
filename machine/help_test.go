package machine_test

import (
	"fmt"
	"math/rand/v2"
	"strings"
	"testing"

	"portcullis/api"
	"portcullis/code"
	"portcullis/machine"
	"portcullis/sample"
)

// kinds: of each kind of operation its name, its fields, and what may stand in each.
var kinds = sample.Kinds()

// told: all that a state is, but for the tick and what is as it was at the tick 0; of registers those up to the last one that isn't 0.
func told(s api.State) string {
	var list []string
	tell := func(is bool, words ...any) {
		if is {
			list = append(list, strings.TrimSpace(fmt.Sprintln(words...)))
		}
	}
	for i, t := range s.Threads {
		calls := ""
		for _, f := range t.Frames {
			regs := f.Regs
			for len(regs) > 0 && regs[len(regs)-1] == 0 {
				regs = regs[:len(regs)-1]
			}
			calls += fmt.Sprintf(" %d.%d>%d%v", f.Func, f.Pc, f.To, regs)
		}
		if t.Fault != 0 {
			calls += fmt.Sprint(" fault ", t.Fault)
		}
		if t.Store != 0 || t.Load != 0 {
			calls += fmt.Sprint(" store ", t.Store, " load ", t.Load)
		}
		tell(calls != fmt.Sprint(" ", i, ".0>-1[]"), fmt.Sprint(i, ":", calls))
	}
	for i := range s.Arenas {
		tell(len(s.Arenas[i]) > 0, "arena", i, s.Arenas[i], s.Objects[i])
	}
	for i, w := range s.Globals {
		tell(w != api.Word{}, "global", i, w)
	}
	for i, holder := range s.Holders {
		tell(holder != -1, "holder", i, holder)
	}
	for i, q := range s.Queues {
		tell(len(q) > 0, "queue", i, q)
	}
	for _, e := range s.Events {
		tell(true, "event", e)
	}
	tell(s.Stores != 0, "stores", s.Stores)
	tell(s.Torn, "torn")
	tell(s.Wild, "wild")
	return strings.Join(list, "; ")
}

// both is a machine and its model.
type both struct {
	t *testing.T
	x *machine.Machine
	m *model
}

// begin: a machine of code, which must be right, and its model.
func begin(t *testing.T, m api.Module, inputs, hatches []int) both {
	t.Helper()
	x, e := machine.New(m, inputs, hatches)
	if e != api.OK || x == nil {
		t.Fatal(e)
	}
	b := both{t, x, modelOf(m, inputs, hatches)}
	b.hold()
	return b
}

// hold holds all that a machine answers, and doesn't change it, against the model.
func (b both) hold() {
	b.t.Helper()
	if got := b.x.State(); !same(got, b.m.State) {
		text, _ := code.Show(b.m.code)
		b.t.Fatalf("%+v, want\n%+v\n%s", got, b.m.State, text)
	}
	for thread := -1; thread <= len(b.m.Threads); thread++ {
		o, ok := b.x.Next(thread)
		want, wantOk := b.m.next(thread)
		if fmt.Sprint(o) != fmt.Sprint(want) || ok != wantOk || b.x.Blocked(thread) != b.m.blocked(thread) || b.x.Ended(thread) != b.m.ended(thread) {
			b.t.Fatalf("thread %d: %v %v %v %v, want %v %v: %s", thread, o, ok, b.x.Blocked(thread), b.x.Ended(thread), want, wantOk, told(b.m.State))
		}
	}
}

// run: ticks of threads, each held against the model.
func (b both) run(picks ...int) {
	b.t.Helper()
	for _, thread := range picks {
		if e := b.x.Step(thread); e != api.OK {
			b.t.Fatal(thread, e)
		}
		b.m.step(thread)
		b.hold()
	}
}

// digits: the numbers of a text, one digit each.
func digits(text string) []int {
	var list []int
	for _, digit := range strings.ReplaceAll(text, " ", "") {
		list = append(list, int(digit-'0'))
	}
	return list
}

// maker makes code that is right, with few registers, and with numbers and registers that fit each other often.
type maker struct{ *rand.Rand }

func (r maker) sized(low, most, least, greatest int) []api.Sized {
	list := make([]api.Sized, low+r.IntN(most-low+1))
	for i := range list {
		list[i].Size = least + r.IntN(greatest-least+1)
	}
	return list
}

func (r maker) numbers(count int) []int {
	list := make([]int, count)
	for i := range list {
		list[i] = r.number()
	}
	return list
}

// number: mostly one that an index, a length or an address may be.
func (r maker) number() int {
	if r.IntN(12) == 0 {
		return wild[r.IntN(len(wild))]
	}
	return []int{0, 1, 64, 128, 192, 0, 0}[r.IntN(7)] + r.IntN(6) - r.IntN(2)
}

func (r maker) module() api.Module {
	m := api.Module{Globals: r.sized(1, 3, 1, 2), Structs: r.sized(1, 3, 0, 5), Chans: r.sized(1, 2, 1, 4)}
	m.Locks, m.Inputs, m.Sinks, m.Hatches = make([]string, 1+r.IntN(3)), make([]string, 1+r.IntN(2)), make([]string, 1+r.IntN(4)), make([]string, 1+r.IntN(2))
	m.Funcs = make([]api.Func, 1+r.IntN(6))
	for i := range m.Funcs {
		f := &m.Funcs[i]
		f.Regs, f.Result = 4+r.IntN(5), r.IntN(3)
		if i > 0 {
			f.Params = r.IntN(4)
		}
		if f.Params == 0 && len(m.Threads) < 4 {
			m.Threads = append(m.Threads, i, i)[:min(4, len(m.Threads)+1+r.IntN(2))]
		}
	}
	for i := range m.Funcs {
		f := &m.Funcs[i]
		f.Code = make([]api.Op, 4+r.IntN(24))
		for k := range f.Code {
			f.Code[k] = r.op(m, *f, k)
		}
		if r.IntN(4) > 0 {
			begin := sample.Ops(fmt.Sprint("const 3 ", []int{1, 2, 3, 5, 9, 40}[r.IntN(6)], "; make 0 1 3; new 2 0; const 3 ", r.IntN(4), " > 0"))
			begin[3].Next = 4 % len(f.Code)
			copy(f.Code, begin)
		}
	}
	return m
}

// kind: one of the kinds; those without which others have nothing to do come more often.
func (r maker) kind() int {
	often := []int{api.OConst, api.OConst, api.OConst, api.OConst, api.ONew, api.OMake, api.OMake, api.OCall, api.OLoad, api.OStore, api.OIf, api.OGet, api.OGet, api.OPut, api.OIndex, api.OIndex, api.OElem}
	if n := r.IntN(2 * len(often)); n < len(often) {
		return often[n]
	}
	return 1 + r.IntN(len(kinds)-1)
}

// register: mostly the one where what must be in it is.
func (r maker) register(f api.Func, what byte) int {
	switch n, known := map[byte]int{'q': 0, 'n': 1, 'p': 2}[what]; {
	case r.IntN(6) == 0:
		return r.IntN(f.Regs)
	case known:
		return n
	}
	return 3 + r.IntN(f.Regs-3)
}

// op: an operation that can stand at a place of a function.
func (r maker) op(m api.Module, f api.Func, place int) api.Op {
	kind := r.kind()
	if kind == api.OReturn && r.IntN(3) > 0 {
		kind = api.OConst
	}
	words := 0
	for _, g := range m.Globals {
		words += g.Size
	}
	o := api.Op{Kind: kind, Next: (place + 1) % len(f.Code), At: r.IntN(99)}
	most := map[byte]int{'i': len(m.Inputs), 'h': len(m.Hatches), 'g': words, 's': len(m.Structs), 'l': len(m.Locks), 'c': len(m.Chans), 'o': len(m.Sinks), 'f': len(m.Funcs), 'x': 5, 'k': 2}
	for i, letter := range kinds[kind][1] {
		switch what := kinds[kind][2][i]; what {
		case '*':
			*sample.Field(&o, letter) = r.number()
		case 'u':
			o.K = 1 + r.IntN(2)
		case 'b':
			o.K = 1 + r.IntN(11)
		case 'r', 'p', 'q', 'n':
			*sample.Field(&o, letter) = r.register(f, what)
		default:
			*sample.Field(&o, letter) = r.IntN(most[what])
		}
	}
	args := 0
	switch kind {
	case api.OMake, api.OCut:
		if o.A == o.B {
			o.B = (o.A + 1 + r.IntN(f.Regs-1)) % f.Regs
		}
	case api.OIf:
		o.Else = r.IntN(len(f.Code))
	case api.OReturn:
		o.Next, args = 0, f.Result
	case api.OCall:
		o.B, o.K, args = -1, 0, m.Funcs[o.A].Params
		if result := m.Funcs[o.A].Result; result > 0 && r.IntN(4) > 0 {
			o.B, o.K = r.IntN(f.Regs-result+1), result
		}
	}
	for range args {
		o.Args = append(o.Args, r.IntN(f.Regs))
	}
	return o
}
