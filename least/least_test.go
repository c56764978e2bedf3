package least_test

import (
	"slices"
	"testing"

	"felucca/api"
	"felucca/early"
	"felucca/late"
	"felucca/least"
	"felucca/order"
	"felucca/path"
	"felucca/trial"
)

// some are right edges: ways from 1 to 4 by 2, by 3, by both, and directly, which are there at the same time, or not.
func some() []api.Edge {
	return []api.Edge{
		{ID: 2, From: 1, To: 3, Open: 0, End: 50, Rate: 5, Owlt: 1, Room: 50}, {ID: 3, From: 1, To: 2, Open: 0, End: 50, Rate: 5, Owlt: 1, Room: 50},
		{ID: 4, From: 3, To: 2, Open: 0, End: 50, Rate: 5, Room: 50}, {ID: 5, From: 2, To: 4, Open: 10, End: 50, Rate: 5, Owlt: 2, Room: 50},
		{ID: 7, From: 3, To: 4, Open: 10, End: 50, Rate: 5, Owlt: 2, Room: 50}, {ID: 8, From: 1, To: 4, Open: 20, End: 50, Rate: 5, Room: 50},
		{ID: 9, From: 1, To: 4, Open: 10, End: 11, Rate: 5, Owlt: 2, Room: 3},
	}
}

func told(t *testing.T, r api.Route, ok bool, arrive int, ids ...int) {
	t.Helper()
	if !ok || r.Arrive != arrive || !slices.Equal(path.IDs(r), ids) {
		t.Error(r, ok, "for", arrive, ids)
	}
}

func none(t *testing.T, r api.Route, ok bool) {
	t.Helper()
	if ok || r.Arrive != 0 || len(r.Hops) != 0 {
		t.Error(r, ok)
	}
}

func TestRouteP17_1(t *testing.T) {
	for _, x := range []struct {
		from, to, now, size, by int
		shut                    []int
		arrive                  int
		ids                     []int
	}{
		{1, 4, 0, 3, 100, nil, 13, []int{9}}, {1, 4, 0, 5, 100, nil, 13, []int{2, 7}}, {1, 4, 0, 5, 13, nil, 13, []int{2, 7}}, {1, 4, 0, 5, 100, []int{3}, 13, []int{3, 5}},
		{1, 4, 0, 5, api.MaxInt, []int{3, 2}, 21, []int{8}}, {1, 4, 19, 5, 100, nil, 21, []int{8}}, {1, 4, 11, 0, 100, nil, 14, []int{2, 7}}, {1, 4, 0, 5, 100, []int{1, 9, -4}, 13, []int{2, 7}},
		{1, 2, 0, 0, 100, nil, 1, []int{3}}, {2, 4, 0, 5, 100, []int{2}, 13, []int{5}}, {1, 4, 18, 0, 100, nil, 20, []int{8}}, {1, 4, 17, 0, 100, nil, 20, []int{8}},
		{1, 1, 7, 3, 7, nil, 7, nil}, {1, 1, 7, 3, 100, []int{1}, 7, nil}, {255, 255, 1 << 40, 0, api.MaxInt, nil, 1 << 40, nil},
	} {
		r, ok := least.Route(some(), x.from, x.to, x.now, x.size, x.by, x.shut...)
		told(t, r, ok, x.arrive, x.ids...)
		if again, ok := path.Route(some(), x.ids, x.from, x.to, x.now, x.size); !ok || !path.Same(again, r) {
			t.Error(x, r, again, ok)
		}
	}
	for _, x := range []struct {
		from, to, now, size, by int
		shut                    []int
	}{
		{1, 4, 0, 5, 12, nil}, {1, 4, 0, 5, 100, []int{4}}, {1, 4, 0, 5, 20, []int{3, 2}}, {4, 1, 0, 0, 100, nil}, {1, 4, 0, 51, 1000, nil}, {1, 4, 50, 0, 1000, nil},
		{1, 1, 7, 3, 6, nil}, {1, 1, 7, 3, api.MinInt, nil}, {1, 9, 0, 0, 100, nil}, {1, 4, 0, 5, -1, nil},
	} {
		r, ok := least.Route(some(), x.from, x.to, x.now, x.size, x.by, x.shut...)
		none(t, r, ok)
	}
}

func TestNotRightToAskP17_1(t *testing.T) {
	ask := func(l []api.Edge, from, to, now, size int) {
		t.Helper()
		r, ok := least.Route(l, from, to, now, size, api.MaxInt)
		none(t, r, ok)
	}
	twice, never := some(), some()
	twice[1].ID, never[3].Open = 2, -1
	for _, l := range [][]api.Edge{twice, never, {{}}} {
		ask(l, 1, 1, 0, 0)
		ask(l, 1, 4, 0, 0)
	}
	for _, n := range []int{0, -1, 256, api.MinInt, api.MaxInt} {
		ask(some(), n, n, 0, 0)
		ask(some(), 1, n, 0, 0)
		ask(some(), n, 1, 0, 0)
	}
	for _, n := range []int{-1, 1<<40 + 1, api.MinInt, api.MaxInt} {
		ask(some(), 1, 1, n, 0)
	}
	for _, n := range []int{-1, 1 << 40, api.MinInt, api.MaxInt} {
		ask(some(), 1, 1, 0, n)
	}
}

// open tells if none of the nodes behind the first one is shut.
func open(nodes, shut []int) bool {
	for _, n := range nodes[1:] {
		if slices.Contains(shut, n) {
			return false
		}
	}
	return true
}

func TestRouteIsTheFirstP17_1(t *testing.T) {
	d, found, long := &trial.Dice{Seed: 17}, 0, 0
	for range 3000 {
		l := trial.Edges(d, 2+d.Throw(4), d.Throw(16))
		from, to, now, size, by := 1+d.Throw(5), 1+d.Throw(5), d.Throw(6), d.Throw(3), 5+d.Throw(20)
		var shut []int
		for range d.Throw(3) {
			shut = append(shut, d.Throw(7))
		}
		all := slices.DeleteFunc(trial.Routes(l, from, to, now, size, by), func(r api.Route) bool {
			nodes, _ := path.Ends(l, path.IDs(r), from)
			return !open(nodes, shut)
		})
		r, ok := least.Route(l, from, to, now, size, by, shut...)
		if ok != (len(all) > 0) {
			t.Fatal(l, from, to, now, size, by, shut, r, ok)
		}
		if !ok {
			none(t, r, ok)
			continue
		}
		if want := order.Sort(all)[0]; !path.Same(r, want) {
			t.Fatal(l, from, to, now, size, by, shut, r, want)
		}
		found, long = found+1, max(long, len(r.Hops))
	}
	if found < 500 || long < 3 {
		t.Error("too little was found:", found, long)
	}
}

func TestNothingIsSharedP17_2(t *testing.T) {
	l, shut := append(some(), api.Edge{ID: -7}), []int{2, -7}
	r, _ := least.Route(l[:7], 1, 4, 0, 5, 100, shut[:1]...)
	for i := range r.Hops[:cap(r.Hops)] {
		r.Hops[:cap(r.Hops)][i] = api.Hop{ID: -8}
	}
	if !slices.Equal(l, append(some(), api.Edge{ID: -7})) || !slices.Equal(shut, []int{2, -7}) {
		t.Error(l, shut)
	}
	again, ok := least.Route(some(), 1, 4, 0, 5, 100, 2)
	told(t, again, ok, 13, 2, 7)
}

func TestAsEarlyAndAsFewP17_3(t *testing.T) {
	d, found := &trial.Dice{Seed: 173}, 0
	for range 2000 {
		l := trial.Edges(d, 2+d.Throw(12), d.Throw(60))
		from, to, now, size := 1+d.Throw(6), 1+d.Throw(6), d.Throw(6), d.Throw(3)
		r, ok := least.Route(l, from, to, now, size, api.MaxInt)
		at, reached := early.At(early.Times(l, from, now, size), to)
		if ok != reached || r.Arrive != at {
			t.Fatal(l, from, to, now, size, r, at)
		}
		if !ok {
			continue
		}
		few, ok := late.Fewest(l, from, to, now, at, size)
		if !ok || len(r.Hops) != few {
			t.Fatal(l, from, to, now, size, r, few)
		}
		if again, ok := path.Route(l, path.IDs(r), from, to, now, size); !ok || !path.Same(again, r) {
			t.Fatal(l, from, to, now, size, r, again)
		}
		found++
	}
	if found < 500 {
		t.Error("too little was found:", found)
	}
}

// TestLongChainEndsP17_1 goes through all nodes, by many edges from each to the next.
func TestLongChainEndsP17_1(t *testing.T) {
	var l []api.Edge
	for i := range 4064 {
		node := 1 + i%254
		l = append(l, api.Edge{ID: i + 1, From: node, To: node + 1, Open: 0, End: 1 << 20, Rate: 1, Room: 1 << 20})
	}
	r, ok := least.Route(l, 1, 255, 0, 1, api.MaxInt)
	if !ok || r.Arrive != 254 || len(r.Hops) != 254 || r.Hops[253] != (api.Hop{ID: 254, Send: 253, Arrive: 254}) {
		t.Error(r, ok)
	}
}
