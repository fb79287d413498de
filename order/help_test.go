package order_test

import (
	"fmt"
	"slices"
	"strings"
	"testing"

	"portcullis/api"
	"portcullis/order"
	"portcullis/sample"
)

// codeOf: code with the locks a to h, whose threads run the functions of these numbers, and whose functions, of four registers, are told as sample.Funcs tells them.
func codeOf(threads []int, funcs ...string) api.Module {
	return api.Module{
		Globals: []api.Sized{{Size: 2}}, Structs: []api.Sized{{Size: 2}}, Chans: []api.Sized{{Size: 1}},
		Locks:  strings.Split("abcdefgh", ""),
		Inputs: make([]string, 2), Sinks: make([]string, 2), Hatches: make([]string, 2),
		Threads: threads,
		Funcs:   sample.Funcs(4, funcs...),
	}
}

// told: the edges, each as its two numbers.
func told(edges [][2]int) string {
	var words []string
	for _, e := range edges {
		words = append(words, fmt.Sprint(e[0], e[1]))
	}
	return strings.ReplaceAll(strings.Join(words, ","), " ", "")
}

// read: the edges that told tells so; their numbers have one digit each.
func read(text string) [][2]int {
	var edges [][2]int
	for _, word := range strings.Fields(strings.ReplaceAll(text, ",", " ")) {
		edges = append(edges, [2]int{int(word[0] - '0'), int(word[1] - '0')})
	}
	return edges
}

// find: the edges that are found in code that is right.
func find(t *testing.T, m api.Module) [][2]int {
	t.Helper()
	edges, e := order.Find(m)
	if e != api.OK {
		t.Fatal(e)
	}
	return edges
}

// hold holds what is found of code, and what is told of it, against what is told by hand, where each place is that of its number, and against the model.
func hold(t *testing.T, m api.Module, edges, want string) {
	t.Helper()
	if got := told(find(t, m)); got != edges {
		t.Errorf("%s, want %s", got, edges)
	}
	places := make([]int, 1+strings.Count(want, "|"))
	for i := range places {
		places[i] = i
	}
	if got, list := order.Check(m), sample.Wanted(want, places); !slices.Equal(got, list) {
		t.Errorf("%v, want %v", got, list)
	}
	holdModel(t, m)
}

// holdModel holds what is found of code, and what is told of it, against the model.
func holdModel(t *testing.T, m api.Module) {
	t.Helper()
	x := modelOf(t, m)
	if got, by := find(t, m), x.find(); !slices.Equal(got, by) {
		t.Fatalf("%v, the model says %v", got, by)
	}
	if got, by := order.Check(m), x.check(); !slices.Equal(got, by) {
		t.Fatalf("%v, the model says %v", got, by)
	}
}
