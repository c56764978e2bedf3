package spur_test

import (
	"slices"
	"testing"

	"felucca/api"
	"felucca/order"
	"felucca/path"
	"felucca/spur"
	"felucca/trial"
)

func none(t *testing.T, x any, r api.Route, ok bool) {
	t.Helper()
	if ok || r.Arrive != 0 || len(r.Hops) != 0 {
		t.Error(x, r, ok)
	}
}

func TestRouteP18_1(t *testing.T) {
	for _, x := range []struct {
		root, bans        []int
		from, to, now, by int
		arrive            int
		ids               []int
	}{
		{nil, nil, 1, 4, 0, 100, 12, []int{7, 5}}, {nil, []int{7}, 1, 4, 0, 100, 13, []int{1, 3, 5}}, {nil, []int{7, 1}, 1, 4, 0, 100, 13, []int{2, 3, 5}},
		{nil, []int{5, 3, 8, 99, -1, 0}, 1, 4, 0, 100, 12, []int{7, 5}}, {nil, []int{7, 5, 3}, 1, 4, 0, 100, 13, []int{1, 3, 5}},
		{[]int{7}, nil, 1, 4, 0, 100, 12, []int{7, 5}}, {[]int{7}, []int{5}, 1, 4, 0, 100, 12, []int{7, 6}}, {[]int{7}, []int{5}, 1, 4, 0, 12, 12, []int{7, 6}}, {[]int{7}, []int{7}, 1, 4, 0, 100, 12, []int{7, 5}},
		{[]int{1}, []int{3, 1, 5}, 1, 4, 0, 100, 13, []int{1, 4, 5}}, {[]int{2, 4}, []int{6}, 1, 4, 20, 100, 23, []int{2, 4, 5}},
		{[]int{7, 6}, []int{6, 5, 7}, 1, 4, 0, 12, 12, []int{7, 6}}, {nil, nil, 3, 3, 5, 5, 5, nil}, {nil, []int{1, 2, 7}, 1, 1, 5, 5, 5, nil}, {[]int{3}, nil, 2, 3, 0, 100, 11, []int{3}},
	} {
		r, ok := spur.Route(trial.Ladder(), x.root, x.bans, x.from, x.to, x.now, 1, x.by)
		want, _ := path.Route(trial.Ladder(), x.ids, x.from, x.to, x.now, 1)
		if !ok || r.Arrive != x.arrive || !path.Same(r, want) {
			t.Error(x, r, ok)
		}
	}
	for _, x := range []struct {
		root, bans        []int
		from, to, now, by int
	}{
		{[]int{7}, []int{5, 6, 8}, 1, 4, 0, 100}, {[]int{7}, []int{5, 6}, 1, 4, 0, 100}, {[]int{7, 8, 3}, nil, 1, 4, 0, 100}, {[]int{1, 3, 8}, nil, 1, 2, 0, 100}, {[]int{1, 3}, nil, 1, 2, 0, 100},
		{[]int{9}, nil, 1, 4, 0, 100}, {[]int{3}, nil, 1, 4, 0, 100}, {[]int{7, 7}, nil, 1, 4, 0, 100}, {[]int{7, 5}, nil, 1, 4, 0, 11}, {[]int{7}, nil, 1, 4, 0, 11}, {[]int{7}, nil, 1, 3, 0, 10},
		{[]int{7}, nil, 1, 1, 0, 100}, {nil, []int{1, 2, 7}, 1, 4, 0, 100}, {nil, nil, 4, 1, 0, 100}, {[]int{1}, nil, 1, 4, 50, 100}, {nil, nil, 3, 3, 5, 4}, {[]int{7}, nil, 1, 9, 0, 100},
		{nil, nil, 1, 4, 0, api.MinInt}, {[]int{7, 5}, nil, 1, 3, 0, 100},
	} {
		r, ok := spur.Route(trial.Ladder(), x.root, x.bans, x.from, x.to, x.now, 1, x.by)
		none(t, x, r, ok)
	}
}

func TestNotRightToAskP18_1(t *testing.T) {
	ask := func(l []api.Edge, root []int, from, to, now, size int) {
		t.Helper()
		r, ok := spur.Route(l, root, nil, from, to, now, size, api.MaxInt)
		none(t, l, r, ok)
	}
	twice, never := trial.Ladder(), trial.Ladder()
	twice[1].ID, never[3].Open = 1, -1
	for _, l := range [][]api.Edge{twice, never, {{}}} {
		ask(l, nil, 1, 1, 0, 0)
		ask(l, []int{7}, 1, 3, 0, 0)
	}
	for _, n := range []int{0, -1, 256, api.MinInt, api.MaxInt} {
		ask(trial.Ladder(), nil, n, n, 0, 0)
		ask(trial.Ladder(), nil, 1, n, 0, 0)
		ask(trial.Ladder(), []int{7}, 1, n, 0, 0)
		ask(trial.Ladder(), nil, n, 1, 0, 0)
	}
	for _, n := range []int{-1, 1<<40 + 1, api.MinInt, api.MaxInt} {
		ask(trial.Ladder(), nil, 1, 1, n, 0)
	}
	for _, n := range []int{-1, 1 << 40, api.MinInt, api.MaxInt} {
		ask(trial.Ladder(), nil, 1, 1, 0, n)
	}
}

// goesOn tells if IDs go on from root without bans.
func goesOn(ids, root, bans []int) bool {
	if len(ids) < len(root) || !slices.Equal(ids[:len(root)], root) {
		return false
	}
	return len(ids) == len(root) || !slices.Contains(bans, ids[len(root)])
}

func TestRouteIsTheFirstP18_1(t *testing.T) {
	d, found, long := &trial.Dice{Seed: 18}, 0, 0
	for range 2500 {
		l := trial.Edges(d, 2+d.Throw(4), 1+d.Throw(16))
		from, to, now, size, by := 1+d.Throw(5), 1+d.Throw(5), d.Throw(6), d.Throw(3), 5+d.Throw(20)
		all := trial.Routes(l, from, to, now, size, by)
		var root, bans []int
		if len(all) > 0 && d.Throw(4) > 0 {
			root = path.IDs(all[d.Throw(len(all))])
			root = root[:d.Throw(len(root)+1)]
		} else {
			root = []int{l[d.Throw(len(l))].ID}
		}
		for range d.Throw(6) {
			bans = append(bans, l[d.Throw(len(l))].ID)
		}
		all = slices.DeleteFunc(all, func(r api.Route) bool { return !goesOn(path.IDs(r), root, bans) })
		r, ok := spur.Route(l, root, bans, from, to, now, size, by)
		if ok != (len(all) > 0) {
			t.Fatal(l, root, bans, from, to, now, size, by, r, ok)
		}
		if !ok {
			none(t, root, r, ok)
			continue
		}
		if want := order.Sort(all)[0]; !path.Same(r, want) {
			t.Fatal(l, root, bans, from, to, now, size, by, r, want)
		}
		found, long = found+1, max(long, len(root))
	}
	if found < 400 || long < 3 {
		t.Error("too little was found:", found, long)
	}
}

func TestNothingIsSharedP18_2(t *testing.T) {
	l, root, bans := append(trial.Ladder(), api.Edge{ID: -7}), []int{7, -7}, []int{5, -7}
	r, _ := spur.Route(l[:8], root[:1], bans[:1], 1, 4, 0, 1, 100)
	was := slices.Clone(r.Hops)
	for i := range r.Hops[:cap(r.Hops)] {
		r.Hops[:cap(r.Hops)][i] = api.Hop{ID: -8}
	}
	if !slices.Equal(l, append(trial.Ladder(), api.Edge{ID: -7})) || !slices.Equal(root, []int{7, -7}) || !slices.Equal(bans, []int{5, -7}) {
		t.Error(l, root, bans)
	}
	if again, _ := spur.Route(l[:8], root[:1], bans[:1], 1, 4, 0, 1, 100); !slices.Equal(again.Hops, was) {
		t.Error(again)
	}
}

func TestOneOrTheOtherP18_3(t *testing.T) {
	d, parted := &trial.Dice{Seed: 183}, 0
	for range 1500 {
		l := trial.Edges(d, 2+d.Throw(5), 1+d.Throw(16))
		from, to, now, size, by := 1+d.Throw(5), 1+d.Throw(5), d.Throw(6), d.Throw(3), 5+d.Throw(20)
		all := trial.Routes(l, from, to, now, size, by)
		r, ok := spur.Route(l, nil, nil, from, to, now, size, by)
		if ok != (len(all) > 0) || ok && !path.Same(r, order.Sort(all)[0]) {
			t.Fatal("all routes go on from no IDs without bans", r, ok)
		}
		// What goes on from the first IDs of r goes on by the next one too, or that is banned.
		ids := path.IDs(r)
		for i := range ids {
			taken, ok := spur.Route(l, ids[:i+1], nil, from, to, now, size, by)
			if !ok || !path.Same(taken, r) {
				t.Fatal(ids[:i+1], taken, r)
			}
			if other, ok := spur.Route(l, ids[:i], ids[i:i+1], from, to, now, size, by); ok {
				if !order.Less(r, other) || path.IDs(other)[i] == ids[i] {
					t.Fatal(r, other)
				}
				parted++
			}
		}
	}
	if parted < 100 {
		t.Error("too little was parted:", parted)
	}
}
