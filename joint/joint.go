// Package joint tells which edges begin, and which end, at each node, so that not all edges are asked at each node. It serves layers that search.
package joint

import "felucca/api"

// Places is, for each node, places in a list of edges, rising.
type Places [api.MaxNode + 1][]int

// From is where the edges from each node stand in l, which is right (12).
func From(l []api.Edge) *Places {
	var p Places
	for i, e := range l {
		p[e.From] = append(p[e.From], i)
	}
	return &p
}

// To is where the edges to each node stand in l, which is right (12).
func To(l []api.Edge) *Places {
	var p Places
	for i, e := range l {
		p[e.To] = append(p[e.To], i)
	}
	return &p
}
