package due_test

import (
	"testing"

	"felucca/due"
	"felucca/late"
	"felucca/trial"
)

// TestEachNumberOfHopsIsKept holds what is told of fewer hops than were counted to what late tells of these.
func TestEachNumberOfHopsIsKept(t *testing.T) {
	d := &trial.Dice{Seed: 17}
	for range 300 {
		l := trial.Edges(d, 2+d.Throw(6), d.Throw(25))
		to, by, size, shut := 1+d.Throw(4), d.Throw(25), d.Throw(3), []int{d.Throw(6)}
		table := due.New(l, to, by, size, shut)
		for table.More() {
		}
		for hops := range 8 {
			known := map[int]int{}
			for _, r := range late.Times(l, to, by, size, hops, shut...) {
				known[r.Node] = r.At
			}
			for node := range 9 {
				at, ok := table.At(node, hops)
				if want, there := known[node]; at != want || ok != there {
					t.Fatal(l, node, hops, at, ok)
				}
			}
		}
	}
}
