package watch

import "portcullis/api"

// memory is the words that a state has. Each method answers the place of a word, and true; or false, if it isn't there.
type memory struct {
	globals []api.Word
	arenas  [][]api.Word
}

// global: a global word. Their places are below those of all addresses.
func (m memory) global(number int) (int, bool) {
	if !has(m.globals, number) {
		return 0, false
	}
	return -1 - number, true
}

// field: a word of an object.
func (m memory) field(object, number int) (int, bool) {
	if object == 0 {
		return 0, false
	}
	return m.word(object + number)
}

// element: an element of a slice.
func (m memory) element(begin, length, index int) (int, bool) {
	if index < 0 || index >= length {
		return 0, false
	}
	return m.word(begin + index)
}

// word: the word at an address.
func (m memory) word(addr int) (int, bool) {
	if addr < 1 {
		return 0, false
	}
	thread, k := (addr-1)/api.Arena, (addr-1)%api.Arena
	if !has(m.arenas, thread) || !has(m.arenas[thread], k) {
		return 0, false
	}
	return addr, true
}
