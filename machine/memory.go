package machine

import (
	"portcullis/api"
	"portcullis/heap"
)

// fault is what ends a thread: it is thrown before anything has changed.
type fault int

// memory is all words of a machine: the threads' own, and the global ones; and what was seen of them.
type memory struct {
	*heap.Heap
	globals    []api.Word
	stores     int
	torn, wild bool
}

// loaded: what a thread gets of a word, the first (k 0) or the second (k 1) of what it loads.
func (m *memory) loaded(by *api.Thread, k int, w api.Word) int {
	if k == 0 {
		by.Load = w.Store
	} else if w.Store != by.Load {
		m.torn = true
	}
	return w.V
}

// stored: the word that a thread stores, the first (k 0) or the second (k 1) of what it stores.
func (m *memory) stored(by *api.Thread, k, v int) api.Word {
	if k == 0 {
		by.Store = m.fresh()
	}
	return api.Word{V: v, Store: by.Store}
}

// fresh: the number of a new store.
func (m *memory) fresh() int {
	m.stores++
	return m.stores
}

// inUse: the word at an address, which must be in use.
func (m *memory) inUse(addr int) api.Word {
	w, ok := m.Load(addr)
	if !ok {
		panic(fault(api.FWild))
	}
	return w
}

// field: a word of an object, and its address.
func (m *memory) field(object, number int) (api.Word, int) {
	if object == 0 {
		panic(fault(api.FNil))
	}
	addr := object + number
	return m.inUse(addr), addr
}

// element: an element of a slice, and its address.
func (m *memory) element(begin, length, index int) (api.Word, int) {
	if index < 0 || index >= length {
		panic(fault(api.FBounds))
	}
	addr := begin + index
	w := m.inUse(addr)
	if !m.together(begin, addr) {
		m.wild = true
	}
	return w, addr
}

// together: do two words belong to one object?
func (m *memory) together(a, b int) bool {
	threadA, objectA, okA := m.Of(a)
	threadB, objectB, okB := m.Of(b)
	return okA && okB && threadA == threadB && objectA == objectB
}
