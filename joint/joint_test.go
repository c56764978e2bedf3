package joint_test

import (
	"slices"
	"testing"

	"felucca/joint"
	"felucca/trial"
)

func TestEachEdgeStandsAtItsNodes(t *testing.T) {
	l := trial.Edges(&trial.Dice{Seed: 15}, 5, 40)
	from, to := joint.From(l), joint.To(l)
	for node := range 256 {
		var begin, end []int
		for i, e := range l {
			if e.From == node {
				begin = append(begin, i)
			}
			if e.To == node {
				end = append(end, i)
			}
		}
		if !slices.Equal(from[node], begin) || !slices.Equal(to[node], end) {
			t.Error(node, from[node], to[node])
		}
	}
}
