// Package diag holds what the layers share that tell what is wrong.
package diag

import (
	"cmp"
	"slices"

	"portcullis/api"
)

// Ordered: a list of its maker's own, sorted within its memory: by places, codes and names, each once.
func Ordered(list []api.Diag) []api.Diag {
	slices.SortFunc(list, func(a, b api.Diag) int {
		return cmp.Or(cmp.Compare(a.At, b.At), cmp.Compare(a.Code, b.Code), cmp.Compare(a.Name, b.Name))
	})
	return slices.Compact(list)
}
