package held_test

import (
	"fmt"
	"slices"
	"strings"
	"testing"

	"portcullis/api"
	"portcullis/held"
	"portcullis/points"
	"portcullis/sample"
)

// codeOf: code with eight locks, whose threads run the functions of these numbers, and whose functions, of four registers, are told as sample.Funcs tells them.
func codeOf(threads []int, funcs ...string) api.Module {
	return api.Module{
		Globals: []api.Sized{{Size: 2}}, Structs: []api.Sized{{Size: 2}}, Chans: []api.Sized{{Size: 1}},
		Locks: make([]string, 8), Inputs: make([]string, 2), Sinks: make([]string, 2), Hatches: make([]string, 2),
		Threads: threads,
		Funcs:   sample.Funcs(4, funcs...),
	}
}

// told: what is held at each operation: one number, where must and may are the same, "-" for -1, else both, parted by "/". Functions are parted by "|", threads by ";"; "x" is a function that a thread doesn't call.
func told(h api.Held) string {
	var threads []string
	for thread, funcs := range h.Must {
		var texts []string
		for fn, ops := range funcs {
			words := []string{"x"}[:1-min(1, len(ops))]
			for op, must := range ops {
				words = append(words, word(must, h.May[thread][fn][op]))
			}
			texts = append(texts, strings.Join(words, " "))
		}
		threads = append(threads, strings.Join(texts, " | "))
	}
	return strings.Join(threads, " ; ")
}

func word(must, may int) string {
	switch {
	case must == -1 && may == -1:
		return "-"
	case must == may:
		return fmt.Sprint(must)
	}
	return fmt.Sprint(must, "/", may)
}

// find: what is found of code that is right; every list in it is as long as it must be.
func find(t *testing.T, m api.Module) api.Held {
	t.Helper()
	h, e := held.Find(m)
	p, _ := points.Find(m)
	if e != api.OK || len(h.Must) != len(m.Threads) || len(h.May) != len(m.Threads) {
		t.Fatalf("%d: %d %d threads of %d", e, len(h.Must), len(h.May), len(m.Threads))
	}
	for thread := range m.Threads {
		if len(h.Must[thread]) != len(m.Funcs) || len(h.May[thread]) != len(m.Funcs) {
			t.Fatalf("%d %d functions of %d", len(h.Must[thread]), len(h.May[thread]), len(m.Funcs))
		}
		for fn, f := range m.Funcs {
			want := 0
			if slices.Contains(p.Reach[thread], fn) {
				want = len(f.Code)
			}
			if len(h.Must[thread][fn]) != want || len(h.May[thread][fn]) != want {
				t.Fatalf("thread %d, function %d: %d %d operations, want %d", thread, fn, len(h.Must[thread][fn]), len(h.May[thread][fn]), want)
			}
		}
	}
	return h
}
