// Package calls tells which functions of code call which.
package calls

import (
	"maps"
	"slices"

	"portcullis/api"
)

// From: the functions that a thread may call which runs the first one, rising. The code must be right.
func From(m api.Module, first int) []int {
	met := map[int]struct{}{}
	var call func(fn int)
	call = func(fn int) {
		if _, there := met[fn]; there {
			return
		}
		met[fn] = struct{}{}
		for _, o := range m.Funcs[fn].Code {
			if o.Kind == api.OCall {
				call(o.A)
			}
		}
	}
	call(first)
	return slices.Sorted(maps.Keys(met))
}
