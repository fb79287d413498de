package watch_test

import (
	"math"
	"slices"
	"strings"

	"portcullis/api"
	"portcullis/sample"
)

// wild: numbers that are hardly ever something that is there.
var wild = []int{math.MinInt, math.MinInt + 1, -1 << 32, -65, -64, -2, -1, 64, 65, 256, 257, 1 << 32, 1<<32 + 1, 1 << 62, math.MaxInt - 64, math.MaxInt - 1, math.MaxInt}

// regs: so many registers has each function of codeOf.
const regs = 6

// codeOf: code with four global words, whose only function has these operations and then halts; four threads run it.
func codeOf(texts ...string) api.Module {
	m := api.Module{Globals: []api.Sized{{Size: 1}, {Size: 2}, {Size: 1}}, Chans: []api.Sized{{Size: 1}}, Locks: make([]string, 8), Sinks: make([]string, 1), Threads: []int{0, 0, 0, 0}}
	text := strings.Join(append(slices.Clone(texts), "return"), ";")
	m.Funcs = []api.Func{{Regs: regs, Code: sample.Ops(text)}}
	return m
}

// stateOf: a state of code of codeOf in which each thread is at the operation that is told of it, with these words in its registers; three threads have 64, 5 and 0 words in use, the last one 1.
func stateOf(words []int, places ...int) api.State {
	s := api.State{Globals: make([]api.Word, 4), Arenas: [][]api.Word{make([]api.Word, 64), make([]api.Word, 5), nil, make([]api.Word, 1)}, Objects: make([][]api.Object, 4)}
	s.Holders = slices.Repeat([]int{-1}, 8)
	for _, pc := range places {
		own := make([]int, regs)
		copy(own, words)
		s.Threads = append(s.Threads, api.Thread{Frames: []api.Frame{{Pc: pc, To: -1, Regs: own}}})
	}
	return s
}
