// Package trial helps the tests of other packages: it makes up edges, and finds routes by trying all. The program does not call it.
package trial

import (
	"felucca/api"
	"felucca/path"
)

// Dice throws numbers, the same ones each time for the same seed.
type Dice struct {
	Seed uint64
}

// Throw is a number from 0 to n - 1.
func (d *Dice) Throw(n int) int {
	d.Seed = d.Seed*6364136223846793005 + 1442695040888963407
	return int(d.Seed>>33) % n
}

// Edges is right edges between so many nodes, with small numbers, of which many are alike.
func Edges(d *Dice, nodes, edges int) []api.Edge {
	var l []api.Edge
	id := 0
	for range edges {
		id += 1 + d.Throw(3)
		from := 1 + d.Throw(nodes)
		to := 1 + (from+d.Throw(nodes-1))%nodes
		open := d.Throw(12)
		l = append(l, api.Edge{
			ID: id, From: from, To: to, Open: open, End: open + 1 + d.Throw(9), Rate: 1 + d.Throw(3), Owlt: d.Throw(3), Room: d.Throw(20),
		})
	}
	return l
}

// Ladder is right edges, all open from 10 on, without delay: two from 1 to 2, from 2 to 3, and from 3 to 4, and one from 1 to 3, and from 3 to 2.
func Ladder() []api.Edge {
	var l []api.Edge
	for i, x := range [][2]int{{1, 2}, {1, 2}, {2, 3}, {2, 3}, {3, 4}, {3, 4}, {1, 3}, {3, 2}} {
		l = append(l, api.Edge{ID: i + 1, From: x[0], To: x[1], Open: 10, End: 50, Rate: 1, Room: 40})
	}
	return l
}

// Routes is all routes from from to to that are there at by or earlier, in no order, found by trying each edge.
func Routes(l []api.Edge, from, to, now, size, by int) []api.Route {
	var found []api.Route
	var try func(ids []int)
	try = func(ids []int) {
		if r, ok := path.Route(l, ids, from, to, now, size); ok && r.Arrive <= by {
			found = append(found, r)
		}
		for _, e := range l {
			longer := append(append([]int(nil), ids...), e.ID)
			if nodes, ok := path.Ends(l, longer, from); ok && simple(nodes) {
				try(longer)
			}
		}
	}
	try(nil)
	return found
}

// simple tells if no two nodes are the same.
func simple(nodes []int) bool {
	seen := map[int]bool{}
	for _, n := range nodes {
		seen[n] = true
	}
	return len(seen) == len(nodes)
}
