package points

import "portcullis/api"

// words: so many words has a site.
const words = 2 * api.MaxFields

// view is a word of each site that a variable holds, from which another one is loaded, or to which that is stored.
type view struct {
	of, word int
	stores   bool
	other    int
	linked   set // the sites with whose words the other one is linked
}

// graph is variables: which sites each holds, and into which others it flows.
type graph struct {
	sums
	holds   []set
	next    [][]int
	first   []int // of each site the variable of its word 0
	views   []view
	work    []int  // the variables that hold what hasn't flowed on
	waiting []bool // of each variable: is it one of these?
}

// more: the first of so many variables more.
func (g *graph) more(count int) int {
	first := len(g.holds)
	g.holds = append(g.holds, make([]set, count)...)
	g.next = append(g.next, make([][]int, count)...)
	g.waiting = append(g.waiting, make([]bool, count)...)
	return first
}

// site: a site more, which a variable holds.
func (g *graph) site(holder int) {
	n := len(g.first)
	g.first = append(g.first, g.more(words))
	g.give(holder, g.only(n))
}

// give gives a variable sites.
func (g *graph) give(n int, sites set) {
	all := g.both(g.holds[n], sites)
	if all.name == g.holds[n].name {
		return
	}
	g.holds[n] = all
	if !g.waiting[n] {
		g.waiting[n] = true
		g.work = append(g.work, n)
	}
}

// flow lets a variable flow into another.
func (g *graph) flow(from, to int) {
	g.next[from] = append(g.next[from], to)
	g.give(to, g.holds[from])
}

// solve lets all flow until nothing changes. Views wait until all else has flowed: then they are linked with many sites at once.
func (g *graph) solve() {
	for len(g.work) > 0 {
		g.spread()
		for i := range g.views {
			g.link(&g.views[i])
		}
	}
}

// spread lets all flow along the links that there are.
func (g *graph) spread() {
	for len(g.work) > 0 {
		n := g.work[0]
		g.work, g.waiting[n] = g.work[1:], false
		for _, to := range g.next[n] {
			g.give(to, g.holds[n])
		}
	}
}

// link links a view with the words of sites that it hasn't been linked with.
func (g *graph) link(v *view) {
	all := g.holds[v.of]
	if all.name == v.linked.name {
		return
	}
	for _, site := range all.sites(v.linked) {
		if word := g.first[site] + v.word; v.stores {
			g.flow(v.other, word)
		} else {
			g.flow(word, v.other)
		}
	}
	v.linked = all
}
