package diag_test

import (
	"math"
	"slices"
	"testing"

	"portcullis/api"
	"portcullis/diag"
)

// By places, then codes, then names, each once, whatever order they come in.
func TestOrdered(t *testing.T) {
	want := []api.Diag{{At: math.MinInt, Code: 91}, {At: -1}, {Code: -1, Name: "b"}, {Code: 40}, {Code: 40, Name: "a"}, {Code: 40, Name: "aa"}, {Code: 40, Name: "b"}, {Code: 41, Name: "a"}, {At: 1, Code: 22, Name: "z"}, {At: math.MaxInt, Code: 1}}
	for step := range 7 {
		var list []api.Diag
		for i := range want {
			one := want[i*(step*2+1)%len(want)]
			list = append(list, one, one, want[len(want)-1-i])
		}
		if got := diag.Ordered(list); !slices.Equal(got, want) {
			t.Error(step, got)
		}
	}
	if got := diag.Ordered(nil); len(got) != 0 {
		t.Error(got)
	}
}
