package calls_test

import (
	"reflect"
	"slices"
	"testing"

	"portcullis/api"
	"portcullis/calls"
	"portcullis/sample"
)

// A function may call each that an operation of it names, wherever that stands, and all that those may call; itself is one of them.
func TestFrom(t *testing.T) {
	m := api.Module{Funcs: sample.Funcs(2,
		"0 0: return; call 4 -1 0; call 2 -1 0; return",
		"0 0: call 1 -1 0; return",
		"0 0: call 0 -1 0; return",
		"0 0: const 0 4; return",
		"0 0: call 3 -1 0; call 3 -1 0; call 4 -1 0; return",
		"0 0: if 0 > 3 | 3; call 2 -1 0; call 1 -1 0; return",
	)}
	want := [][]int{{0, 2, 3, 4}, {1}, {0, 2, 3, 4}, {3}, {3, 4}, {0, 1, 2, 3, 4, 5}}
	before := sample.WholeCode(m)
	for first, list := range want {
		if got := calls.From(m, first); !slices.Equal(got, list) {
			t.Error(first, got)
		}
	}
	if !reflect.DeepEqual(sample.WholeCode(m), before) {
		t.Error("changed")
	}
}

// A row of calls from function to function, as long as may be.
func TestRow(t *testing.T) {
	var m api.Module
	for fn := range 12 {
		m.Funcs = append(m.Funcs, api.Func{Code: []api.Op{{Kind: api.OCall, A: (fn + 5) % 12, B: -1}}})
	}
	for first := range 12 {
		if got := calls.From(m, first); !slices.Equal(got, []int{0, 1, 2, 3, 4, 5, 6, 7, 8, 9, 10, 11}) {
			t.Error(first, got)
		}
	}
}
