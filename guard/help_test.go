package guard_test

import (
	"fmt"
	"strings"
	"testing"

	"portcullis/api"
	"portcullis/guard"
	"portcullis/sample"
)

// regs: so many registers has each function of codeOf.
const regs = 6

// codeOf: code with five global words, of the globals a, b and c, and eight locks, whose threads run the functions of these numbers, and whose functions are told as sample.Funcs tells them.
func codeOf(threads []int, funcs ...string) api.Module {
	return api.Module{
		Globals: []api.Sized{{Name: "a", Size: 1}, {Name: "b", Size: 2}, {Name: "c", Size: 2}},
		Structs: []api.Sized{{Size: 3}, {Size: 16}},
		Chans:   []api.Sized{{Size: 1}},
		Locks:   make([]string, 8), Inputs: make([]string, 2), Sinks: make([]string, 2), Hatches: make([]string, 2),
		Threads: threads,
		Funcs:   sample.Funcs(regs, funcs...),
	}
}

// told: of each place which it is ("g" and the global word; "s", the site and the word; "e" and the site of the elements), the numbers of its threads and locks, "w", if it is written, and where it is touched first.
func told(list []api.Guarded) string {
	var words []string
	for _, g := range list {
		place := fmt.Sprint("g", g.Place.A)
		switch g.Place.Kind {
		case 2:
			place = fmt.Sprint("s", g.Place.A, ".", g.Place.B)
		case 3:
			place = fmt.Sprint("e", g.Place.A)
		}
		if g.Writes {
			place += "w"
		}
		words = append(words, fmt.Sprintf("%s=%d/%d@%d", place, g.Threads, g.Locks, g.At))
	}
	return strings.Join(words, " ")
}

// find: what is found of code that is right; the numbers of places that aren't of their kinds are zero.
func find(t *testing.T, m api.Module) []api.Guarded {
	t.Helper()
	list, e := guard.Find(m)
	if e != api.OK {
		t.Fatal(e)
	}
	for _, g := range list {
		if at := g.Place; at.Kind < 1 || at.Kind > 3 || at.Kind != 2 && at.B != 0 {
			t.Fatalf("%+v", at)
		}
	}
	return list
}
