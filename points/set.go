package points

import (
	"maps"
	"math/bits"
	"slices"
)

// span: so many sites have one key in a set.
const span = 64

// set is sites by their numbers: of each span of them those that are in it, a bit each. It is never changed, so that many can share it, and two of one name are the same. The zero set is empty.
type set struct {
	name  int
	spans map[int]uint64
}

// has: are all of another set in it?
func (s set) has(other set) bool {
	for k, some := range other.spans {
		if some&^s.spans[k] != 0 {
			return false
		}
	}
	return true
}

// sites: their numbers, rising, without those of another set.
func (s set) sites(without set) []int {
	var list []int
	for _, k := range slices.Sorted(maps.Keys(s.spans)) {
		for some := s.spans[k] &^ without.spans[k]; some != 0; some &= some - 1 {
			list = append(list, k*span+bits.TrailingZeros64(some))
		}
	}
	return list
}

// mostKept: so many sums of sets are kept at most.
const mostKept = 1 << 12

// sums makes sets. It keeps what it has made of two others for a while, since the same two are often joined again and again.
type sums struct {
	made int
	kept map[[2]int]set
}

// named: a set with a name of its own.
func (s *sums) named(spans map[int]uint64) set {
	s.made++
	return set{s.made, spans}
}

// only: the set of one site.
func (s *sums) only(site int) set {
	return s.named(map[int]uint64{site / span: 1 << (site % span)})
}

// both: the set of the sites of two; one of them, if that has all, the first one rather.
func (s *sums) both(a, b set) set {
	pair := [2]int{a.name, b.name}
	if sum, there := s.kept[pair]; there {
		return sum
	}
	if len(s.kept) >= mostKept || s.kept == nil {
		s.kept = map[[2]int]set{}
	}
	sum := s.joined(a, b)
	s.kept[pair] = sum
	return sum
}

func (s *sums) joined(a, b set) set {
	if a.has(b) {
		return a
	}
	if b.has(a) {
		return b
	}
	spans := maps.Clone(a.spans)
	for k, some := range b.spans {
		spans[k] |= some
	}
	return s.named(spans)
}
