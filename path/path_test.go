package path_test

import (
	"slices"
	"testing"

	"felucca/api"
	"felucca/hop"
	"felucca/path"
	"felucca/trial"
)

// some are right edges: 1 to 2, 2 to 3, 3 to 1, 1 to 3, and 2 to 1.
func some() []api.Edge {
	return []api.Edge{
		{ID: 2, From: 1, To: 2, Open: 10, End: 20, Rate: 3, Owlt: 4, Room: 30}, {ID: 4, From: 2, To: 3, Open: 5, End: 30, Rate: 2, Owlt: 1, Room: 50},
		{ID: 5, From: 3, To: 1, Open: 0, End: 40, Rate: 9, Room: 360}, {ID: 9, From: 1, To: 3, Open: 30, End: 40, Rate: 9, Room: 90},
		{ID: 10, From: 2, To: 1, Open: 0, End: 19, Rate: 7, Room: 133},
	}
}

func TestRightP12_1(t *testing.T) {
	for _, l := range [][]api.Edge{nil, {}, some(), some()[:1], some()[2:]} {
		if !path.Right(l) {
			t.Error("right:", l)
		}
	}
	for _, l := range wrong() {
		if path.Right(l) {
			t.Error("not right:", l)
		}
	}
}

// wrong are lists of edges that are not right.
func wrong() [][]api.Edge {
	twice, falling, late, none := some(), some(), some(), some()
	twice[1].ID = 2
	falling[0].ID = 5
	late[4].Open = -1
	none[0] = api.Edge{}
	return [][]api.Edge{twice, falling, late, none, {{}}}
}

func TestWalkP12_2(t *testing.T) {
	for _, x := range []struct {
		ids             []int
		from, now, size int
		want            []api.Hop
	}{
		{nil, 1, 3, 7, nil}, {nil, 255, 1 << 40, 1<<40 - 1, nil},
		{[]int{2}, 1, 12, 7, []api.Hop{{ID: 2, Send: 12, Arrive: 19}}},
		{[]int{2, 4}, 1, 10, 7, []api.Hop{{ID: 2, Send: 10, Arrive: 17}, {ID: 4, Send: 17, Arrive: 22}}},
		{[]int{2, 4, 5, 9}, 1, 0, 7, []api.Hop{{ID: 2, Send: 10, Arrive: 17}, {ID: 4, Send: 17, Arrive: 22}, {ID: 5, Send: 22, Arrive: 23}, {ID: 9, Send: 30, Arrive: 31}}},
		{[]int{10, 2}, 2, 0, 7, []api.Hop{{ID: 10, Send: 0, Arrive: 1}, {ID: 2, Send: 10, Arrive: 17}}},
		{[]int{2, 10, 2}, 1, 0, 0, []api.Hop{{ID: 2, Send: 10, Arrive: 14}, {ID: 10, Send: 14, Arrive: 14}, {ID: 2, Send: 14, Arrive: 18}}},
	} {
		if got, ok := path.Walk(some(), x.ids, x.from, x.now, x.size); !ok || !slices.Equal(got, x.want) {
			t.Error(x, got, ok)
		}
	}
	for _, x := range []struct {
		ids             []int
		from, now, size int
	}{
		{[]int{3}, 1, 0, 0}, {[]int{0}, 1, 0, 0}, {[]int{-2}, 1, 0, 0}, {[]int{2, 6}, 1, 0, 0}, {[]int{2}, 2, 0, 0}, {[]int{2, 5}, 1, 0, 0}, {[]int{2, 2}, 1, 0, 0},
		{[]int{2}, 1, 20, 0}, {[]int{2}, 1, 18, 7}, {[]int{2}, 1, 0, 31}, {[]int{2, 10}, 1, 15, 0}, {[]int{2, 4}, 1, 0, 29}, {[]int{4, 2}, 1, 0, 0},
	} {
		if got, ok := path.Walk(some(), x.ids, x.from, x.now, x.size); ok || len(got) != 0 {
			t.Error(x, got, ok)
		}
	}
}

func TestEndsP12_3(t *testing.T) {
	for _, x := range []struct {
		ids  []int
		from int
		want []int
	}{
		{nil, 1, []int{1}}, {nil, 255, []int{255}}, {[]int{2}, 1, []int{1, 2}}, {[]int{2, 4, 5, 9, 5}, 1, []int{1, 2, 3, 1, 3, 1}}, {[]int{4, 5}, 2, []int{2, 3, 1}},
	} {
		if got, ok := path.Ends(some(), x.ids, x.from); !ok || !slices.Equal(got, x.want) {
			t.Error(x, got, ok)
		}
	}
	for _, x := range []struct {
		ids  []int
		from int
	}{{[]int{1}, 1}, {[]int{0}, 1}, {[]int{2}, 2}, {[]int{2}, 3}, {[]int{2, 9}, 1}, {[]int{2, 4, 7}, 1}, {nil, 0}, {nil, 256}, {nil, -1}} {
		if got, ok := path.Ends(some(), x.ids, x.from); ok || len(got) != 0 {
			t.Error(x, got, ok)
		}
	}
}

func TestRouteP12_4(t *testing.T) {
	for _, x := range []struct {
		ids                 []int
		from, to, now, size int
		want                api.Route
	}{
		{nil, 1, 1, 3, 7, api.Route{Arrive: 3}}, {nil, 9, 9, 1 << 40, 7, api.Route{Arrive: 1 << 40}},
		{[]int{2, 4}, 1, 3, 10, 7, api.Route{Hops: []api.Hop{{ID: 2, Send: 10, Arrive: 17}, {ID: 4, Send: 17, Arrive: 22}}, Arrive: 22}},
		{[]int{9}, 1, 3, 31, 0, api.Route{Hops: []api.Hop{{ID: 9, Send: 31, Arrive: 31}}, Arrive: 31}},
	} {
		r, ok := path.Route(some(), x.ids, x.from, x.to, x.now, x.size)
		if !ok || r.Arrive != x.want.Arrive || !slices.Equal(r.Hops, x.want.Hops) {
			t.Error(x, r, ok)
		}
	}
	for _, x := range []struct {
		ids                 []int
		from, to, now, size int
	}{
		{nil, 1, 2, 3, 7}, {[]int{2}, 1, 3, 10, 7}, {[]int{2, 4}, 1, 2, 10, 7}, {[]int{2, 10}, 1, 1, 0, 0}, {[]int{2, 4, 5}, 1, 1, 0, 0}, {[]int{10, 2}, 2, 2, 0, 0},
		{[]int{2, 4, 5, 9}, 1, 3, 0, 0}, {[]int{2, 10, 9}, 1, 3, 0, 0}, {[]int{3}, 1, 2, 0, 0}, {[]int{3}, 1, 1, 0, 0}, {[]int{4}, 1, 1, 0, 0}, {[]int{2}, 1, 2, 20, 0}, {[]int{4}, 1, 3, 0, 0},
	} {
		if r, ok := path.Route(some(), x.ids, x.from, x.to, x.now, x.size); ok || r.Arrive != 0 || len(r.Hops) != 0 {
			t.Error(x, r, ok)
		}
	}
}

func TestNotRightToAskP12_2(t *testing.T) {
	none := func(l []api.Edge, ids []int, from, to, now, size int) {
		t.Helper()
		if to == 2 {
			if got, ok := path.Walk(l, ids, from, now, size); ok || len(got) != 0 {
				t.Error("Walk", got, ok)
			}
		}
		if r, ok := path.Route(l, ids, from, to, now, size); ok || r.Arrive != 0 || len(r.Hops) != 0 {
			t.Error("Route", r, ok)
		}
	}
	for _, l := range wrong() {
		none(l, nil, 2, 2, 5, 0)
		none(l, []int{2}, 1, 2, 5, 0)
		if got, ok := path.Ends(l, nil, 1); ok || len(got) != 0 {
			t.Error("Ends", got, ok)
		}
	}
	for _, n := range []int{0, 256, -1, api.MinInt, api.MaxInt} {
		none(some(), nil, n, n, 5, 0)
		none(some(), nil, n, 2, 5, 0)
		none(some(), nil, 1, n, 5, 0)
	}
	for _, n := range []int{-1, 1<<40 + 1, api.MinInt, api.MaxInt} {
		none(some(), nil, 2, 2, n, 0)
	}
	for _, n := range []int{-1, 1 << 40, api.MinInt, api.MaxInt} {
		none(some(), nil, 2, 2, 5, n)
	}
}

func TestIDsAndSameP12_4(t *testing.T) {
	r := api.Route{Hops: []api.Hop{{ID: 2, Send: 10, Arrive: 17}, {ID: -4, Send: 17, Arrive: 22}, {ID: 2}}, Arrive: 22}
	if got := path.IDs(r); !slices.Equal(got, []int{2, -4, 2}) {
		t.Error(got)
	}
	if got := path.IDs(api.Route{Arrive: 5}); len(got) != 0 {
		t.Error(got)
	}
	if !path.Same(r, r) || !path.Same(api.Route{Hops: []api.Hop{}, Arrive: 1}, api.Route{Arrive: 1}) {
		t.Error("the same")
	}
	for _, set := range []func(r *api.Route){
		func(r *api.Route) { r.Arrive++ }, func(r *api.Route) { r.Hops = r.Hops[:2] }, func(r *api.Route) { r.Hops = append(r.Hops, api.Hop{}) },
		func(r *api.Route) { r.Hops[1].ID++ }, func(r *api.Route) { r.Hops[2].Send++ }, func(r *api.Route) { r.Hops[0].Arrive++ },
	} {
		o := api.Route{Hops: slices.Clone(r.Hops), Arrive: r.Arrive}
		if set(&o); path.Same(o, r) || path.Same(r, o) {
			t.Error(o)
		}
	}
}

func TestNothingIsSharedP12_5(t *testing.T) {
	l, ids := append(some(), api.Edge{ID: -7}), []int{2, 4, -7}
	path.Walk(l[:5], ids[:2], 1, 10, 7)
	nodes, _ := path.Ends(l[:5], ids[:2], 1)
	r, _ := path.Route(l[:5], ids[:2], 1, 3, 10, 7)
	was := slices.Clone(r.Hops)
	got := path.IDs(r)
	for i := range nodes[:cap(nodes)] {
		nodes[:cap(nodes)][i] = -8
	}
	for i := range got[:cap(got)] {
		got[:cap(got)][i] = -8
	}
	if !slices.Equal(l, append(some(), api.Edge{ID: -7})) || !slices.Equal(ids, []int{2, 4, -7}) || !slices.Equal(r.Hops, was) {
		t.Error(l, ids, r)
	}
	for i := range r.Hops[:cap(r.Hops)] {
		r.Hops[:cap(r.Hops)][i] = api.Hop{ID: -8}
	}
	if again, _ := path.Route(l[:5], ids[:2], 1, 3, 10, 7); !slices.Equal(again.Hops, was) {
		t.Error(again)
	}
}

// slowWalk passes one edge after the other.
func slowWalk(l []api.Edge, ids []int, from, now, size int) ([]api.Hop, bool) {
	var hops []api.Hop
	for _, id := range ids {
		i := slices.IndexFunc(l, func(e api.Edge) bool { return e.ID == id })
		if i < 0 || l[i].From != from {
			return nil, false
		}
		sent, there, ok := hop.Pass(l[i], now, size)
		if !ok {
			return nil, false
		}
		hops = append(hops, api.Hop{ID: id, Send: sent, Arrive: there})
		from, now = l[i].To, there
	}
	return hops, true
}

func TestHopsFollowEachOtherP12_6(t *testing.T) {
	d, long := &trial.Dice{Seed: 12}, 0
	for range 3000 {
		l := trial.Edges(d, 3, 8)
		from, now, size := 1+d.Throw(3), d.Throw(8), d.Throw(4)
		var ids []int
		at := from
		for range d.Throw(6) {
			e := l[d.Throw(len(l))]
			for try := 0; e.From != at && try < 9; try++ {
				e = l[d.Throw(len(l))]
			}
			ids = append(ids, e.ID)
			at = e.To
		}
		hops, ok := path.Walk(l, ids, from, now, size)
		want, wantOK := slowWalk(l, ids, from, now, size)
		if ok != wantOK || !slices.Equal(hops, want) {
			t.Fatal(l, ids, from, now, size, hops, ok)
		}
		if !ok {
			continue
		}
		long = max(long, len(hops))
		there := now
		for _, h := range hops {
			if h.Send < there || h.Arrive < h.Send {
				t.Fatal(hops)
			}
			there = h.Arrive
		}
		earlier, ok := path.Walk(l, ids, from, now/2, size)
		if !ok || len(hops) > 0 && earlier[len(hops)-1].Arrive > there {
			t.Fatal("who begins earlier is there no later", hops, earlier)
		}
	}
	if long < 3 {
		t.Error("no walk was long:", long)
	}
}
