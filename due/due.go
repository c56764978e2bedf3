// Package due tells by when a bundle is to be at each node, with more and more hops. It serves the layers late and least: least asks for each number of hops that is left, so all of them are kept.
package due

import (
	"felucca/api"
	"felucca/hop"
	"felucca/joint"
)

// Table is by when one is to be where, to be in time (16) with as many hops as were counted till now.
type Table struct {
	l        []api.Edge
	into     *joint.Places
	to, size int
	shut     map[int]bool
	hops     int
	steps    map[int][]step
	fresh    []int
}

// step is a time that holds from so many hops on.
type step struct {
	hops, at int
}

// New is a table of no hops, of what is right to ask (12). The edges are kept: they are not to be changed while it is used.
func New(l []api.Edge, to, by, size int, shut []int) *Table {
	t := &Table{l: l, into: joint.To(l), to: to, size: size, shut: map[int]bool{}}
	for _, n := range shut {
		t.shut[n] = true
	}
	t.steps = map[int][]step{to: {{0, by}}}
	t.fresh = []int{to}
	return t
}

// At is the latest time at that node, with so many hops, or with as many as were counted, if these are fewer.
func (t *Table) At(node, hops int) (int, bool) {
	steps := t.steps[node]
	for i := len(steps) - 1; i >= 0; i-- {
		if steps[i].hops <= hops {
			return steps[i].at, true
		}
	}
	return 0, false
}

// Through tells if one may come to that node at that time, and still be in time with so many hops.
func (t *Table) Through(node, at, hops int) bool {
	last, ok := t.At(node, hops)
	return ok && at <= last && t.open(node)
}

// open tells if one may come to that node.
func (t *Table) open(node int) bool {
	return node == t.to || !t.shut[node]
}

// More counts one more hop, and tells if any time is later, or new, by it. If none is, none will ever be.
func (t *Table) More() bool {
	later := map[int]int{}
	for _, node := range t.fresh {
		if t.open(node) {
			t.ahead(node, later)
		}
	}
	t.hops++
	t.fresh = nil
	for node, at := range later {
		t.steps[node] = append(t.steps[node], step{t.hops, at})
		t.fresh = append(t.fresh, node)
	}
	return len(later) > 0
}

// ahead lays into later what is later for the nodes from which one goes to this one.
func (t *Table) ahead(node int, later map[int]int) {
	by, _ := t.At(node, t.hops)
	for _, i := range t.into[node] {
		e := t.l[i]
		at, ok := hop.Latest(e, by, t.size)
		if !ok || e.From == t.to {
			continue
		}
		if was, known := t.At(e.From, t.hops); known && was >= at {
			continue
		}
		if other, known := later[e.From]; !known || at > other {
			later[e.From] = at
		}
	}
}

// Fewest counts hops till one is in time from that node, ready at now, and tells how many these are.
func (t *Table) Fewest(from, now int) (int, bool) {
	for {
		if at, ok := t.At(from, t.hops); ok && at >= now {
			return t.hops, true
		}
		if !t.More() {
			return 0, false
		}
	}
}

// Last is the latest times, with as many hops as were counted.
func (t *Table) Last() map[int]int {
	times := map[int]int{}
	for node := range t.steps {
		times[node], _ = t.At(node, t.hops)
	}
	return times
}
