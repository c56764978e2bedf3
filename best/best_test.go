package best_test

import (
	"slices"
	"testing"

	"felucca/api"
	"felucca/best"
	"felucca/least"
	"felucca/order"
	"felucca/path"
	"felucca/trial"
)

// fromOneToFour are the IDs of all routes of the ladder from 1 to 4, in order.
func fromOneToFour() [][]int {
	return [][]int{{7, 5}, {7, 6}, {1, 3, 5}, {1, 3, 6}, {1, 4, 5}, {1, 4, 6}, {2, 3, 5}, {2, 3, 6}, {2, 4, 5}, {2, 4, 6}}
}

func TestRoutesP19_1(t *testing.T) {
	for _, k := range []int{1, 2, 3, 5, 9, 10, 11, 1000, api.MaxInt} {
		got := best.Routes(trial.Ladder(), 1, 4, 0, 1, 100, k)
		want := fromOneToFour()[:min(k, 10)]
		if len(got) != len(want) {
			t.Fatal(k, got)
		}
		for i, r := range got {
			whole, _ := path.Route(trial.Ladder(), want[i], 1, 4, 0, 1)
			if !path.Same(r, whole) {
				t.Error(k, i, r)
			}
		}
	}
	for _, x := range []struct{ from, to, now, by, k, n int }{
		{1, 4, 0, 12, 99, 2}, {1, 4, 0, 13, 99, 10}, {1, 4, 0, 11, 99, 0}, {1, 4, 47, 100, 99, 10}, {1, 4, 48, 100, 99, 2}, {1, 4, 49, 100, 99, 0}, {4, 1, 0, 100, 99, 0},
		{1, 3, 0, 100, 99, 5}, {3, 1, 0, 100, 99, 0}, {1, 2, 0, 100, 99, 3}, {1, 4, 0, api.MinInt, 99, 0}, {1, 4, 0, api.MaxInt, 99, 10},
		{1, 4, 0, 100, 0, 0}, {1, 4, 0, 100, -1, 0}, {1, 4, 0, 100, api.MinInt, 0}, {3, 3, 5, 5, 99, 1}, {3, 3, 5, 4, 99, 0}, {3, 3, 5, 5, 0, 0}, {9, 8, 5, 99, 9, 0},
	} {
		if got := best.Routes(trial.Ladder(), x.from, x.to, x.now, 1, x.by, x.k); len(got) != x.n {
			t.Error(x, got)
		}
	}
	if got := best.Routes(nil, 255, 255, 1<<40, 7, 1<<40, 3); len(got) != 1 || got[0].Arrive != 1<<40 || len(got[0].Hops) != 0 {
		t.Error(got)
	}
}

func TestNotRightToAskP19_1(t *testing.T) {
	ask := func(l []api.Edge, from, to, now, size int) {
		t.Helper()
		if got := best.Routes(l, from, to, now, size, api.MaxInt, 8); len(got) != 0 {
			t.Error(got)
		}
	}
	twice, never := trial.Ladder(), trial.Ladder()
	twice[1].ID, never[3].Open = 1, -1
	for _, l := range [][]api.Edge{twice, never, {{}}} {
		ask(l, 1, 1, 0, 0)
		ask(l, 1, 4, 0, 0)
	}
	for _, n := range []int{0, -1, 256, api.MinInt, api.MaxInt} {
		ask(trial.Ladder(), n, n, 0, 0)
		ask(trial.Ladder(), 1, n, 0, 0)
		ask(trial.Ladder(), n, 1, 0, 0)
	}
	for _, n := range []int{-1, 1<<40 + 1, api.MinInt, api.MaxInt} {
		ask(trial.Ladder(), 1, 1, n, 0)
	}
	for _, n := range []int{-1, 1 << 40, api.MinInt, api.MaxInt} {
		ask(trial.Ladder(), 1, 1, 0, n)
	}
}

func TestRoutesAreTheFirstP19_1(t *testing.T) {
	d, most := &trial.Dice{Seed: 19}, 0
	for range 1200 {
		l := trial.Edges(d, 2+d.Throw(4), 1+d.Throw(18))
		from, to, now, size, by := 1+d.Throw(5), 1+d.Throw(5), d.Throw(6), d.Throw(3), 5+d.Throw(20)
		all := order.Sort(trial.Routes(l, from, to, now, size, by))
		for _, k := range []int{1, 1 + d.Throw(9), 1000} {
			got := best.Routes(l, from, to, now, size, by, k)
			if !order.Same(got, all[:min(k, len(all))]) {
				t.Fatal(l, from, to, now, size, by, k, got, all)
			}
		}
		most = max(most, len(all))
	}
	if most < 9 {
		t.Error("there were too few routes:", most)
	}
}

func TestNothingIsSharedP19_2(t *testing.T) {
	l := append(trial.Ladder(), api.Edge{ID: -7})
	got := best.Routes(l[:8], 1, 4, 0, 1, 100, 5)
	for i := range got {
		other := slices.Clone(got[(i+1)%5].Hops)
		for j := range got[i].Hops[:cap(got[i].Hops)] {
			got[i].Hops[:cap(got[i].Hops)][j] = api.Hop{ID: -8 - i}
		}
		if !slices.Equal(got[(i+1)%5].Hops, other) && i < 4 {
			t.Error("two routes share their hops", i)
		}
	}
	if !slices.Equal(l, append(trial.Ladder(), api.Edge{ID: -7})) {
		t.Error(l)
	}
	for i, r := range best.Routes(l[:8], 1, 4, 0, 1, 100, 5) {
		if !slices.Equal(path.IDs(r), fromOneToFour()[i]) {
			t.Error(i, r)
		}
	}
}

func TestTheyRiseP19_3(t *testing.T) {
	d := &trial.Dice{Seed: 193}
	for range 150 {
		l := trial.Edges(d, 4+d.Throw(8), 40)
		from, to, now := 1+d.Throw(4), 1+d.Throw(4), d.Throw(4)
		got := best.Routes(l, from, to, now, 0, api.MaxInt, 30)
		for i, r := range got {
			if i > 0 && !order.Less(got[i-1], r) {
				t.Fatal("they rise", got[i-1], r)
			}
			if whole, ok := path.Route(l, path.IDs(r), from, to, now, 0); !ok || !path.Same(whole, r) {
				t.Fatal("each is a route", r, whole)
			}
		}
		first, ok := least.Route(l, from, to, now, 0, api.MaxInt)
		if ok != (len(got) > 0) || ok && !path.Same(first, got[0]) {
			t.Fatal("with k 1: the best route", first, got)
		}
	}
}
