package order_test

import (
	"slices"
	"testing"

	"felucca/api"
	"felucca/order"
)

// route is one of these IDs, its times by a mark, which does not matter for the order.
func route(arrive, mark int, ids ...int) api.Route {
	r := api.Route{Arrive: arrive}
	for i, id := range ids {
		r.Hops = append(r.Hops, api.Hop{ID: id, Send: mark + i, Arrive: mark - i})
	}
	return r
}

// rising is a row in order.
func rising() []api.Route {
	return []api.Route{
		route(api.MinInt, 0, 9), route(-1, 0), route(20, 5), route(20, 4, 2), route(20, 1, 7), route(20, 0, -3, 9), route(20, 3, 1, 2), route(20, 3, 1, 3),
		route(20, 0, 2, 0), route(20, 0, 2, 1), route(20, 9, 1, 1, 1), route(21, 9), route(21, 0, api.MinInt), route(21, 0, api.MaxInt), route(api.MaxInt, 0, 1, 1),
	}
}

// same holds routes one by one, without the program's own Same.
func same(a, b []api.Route) bool {
	return slices.EqualFunc(a, b, func(x, y api.Route) bool { return x.Arrive == y.Arrive && slices.Equal(x.Hops, y.Hops) })
}

func TestCompareP13_1(t *testing.T) {
	for i, a := range rising() {
		for j, b := range rising() {
			want := 0
			if i < j {
				want = -1
			} else if i > j {
				want = 1
			}
			if got := order.Compare(a, b); got != want {
				t.Error(a, b, got)
			}
			if order.Less(a, b) != (i < j) {
				t.Error("Less", a, b)
			}
		}
	}
	if order.Compare(route(20, 1, 5, 6), route(20, 99, 5, 6)) != 0 || order.Less(route(20, 1, 5), route(20, 2, 5)) {
		t.Error("times do not matter")
	}
}

// mixed is the rows of l, each twice, in another order, the first one of two marked as in l.
func mixed(l []api.Route) []api.Route {
	var m []api.Route
	for i := range l {
		m = append(m, l[i*7%len(l)])
	}
	for i := range l {
		again := l[i*4%len(l)]
		again.Hops = slices.Clone(again.Hops)
		for j := range again.Hops {
			again.Hops[j].Send = -77
		}
		m = append(m, again)
	}
	return m
}

func TestSortP13_2(t *testing.T) {
	for _, x := range []struct{ l, want []api.Route }{
		{nil, nil}, {rising(), rising()}, {mixed(rising()), rising()},
		{[]api.Route{route(9, 3, 1), route(9, 2, 1), route(8, 1), route(9, 1, 1)}, []api.Route{route(8, 1), route(9, 3, 1)}},
		{[]api.Route{route(9, 2, 1), route(9, 3, 1)}, []api.Route{route(9, 2, 1)}},
	} {
		if got := order.Sort(x.l); !same(got, x.want) {
			t.Error(got)
		}
	}
}

func TestInsertP13_3(t *testing.T) {
	l := rising()
	for i, r := range l {
		without := slices.Concat(l[:i], l[i+1:])
		other := r
		other.Hops = slices.Clone(r.Hops)
		for j := range other.Hops {
			other.Hops[j].Send = -77
		}
		for _, most := range []int{api.MinInt, -1, 0, 1, 2, 5, len(l) - 1, len(l), len(l) + 1, api.MaxInt} {
			n := min(max(most, 0), len(l))
			if got := order.Insert(without, r, most); !same(got, l[:n]) {
				t.Error(i, most, got)
			}
			if got := order.Insert(l, other, most); !same(got, l[:n]) {
				t.Error("the one that was there stays", i, most, got)
			}
		}
	}
	if got := order.Insert(nil, l[3], 1); !same(got, l[3:4]) {
		t.Error(got)
	}
	if got := order.Insert(nil, l[3], 0); len(got) != 0 {
		t.Error(got)
	}
}

func TestSameP13_4(t *testing.T) {
	if !order.Same(nil, []api.Route{}) || !order.Same(rising(), rising()) || !order.Same([]api.Route{{Hops: []api.Hop{}}}, []api.Route{{}}) {
		t.Error("the same")
	}
	if order.Same(rising(), rising()[1:]) || order.Same(rising(), nil) {
		t.Error("one is longer")
	}
	for i := range rising() {
		l := rising()
		if l[i].Arrive++; order.Same(l, rising()) {
			t.Error(l[i])
		}
		l = rising()
		if l[i].Hops = append(l[i].Hops, api.Hop{}); order.Same(l, rising()) {
			t.Error(l[i])
		}
		for j := range rising()[i].Hops {
			l := rising()
			if l[i].Hops[j].Send++; order.Same(l, rising()) {
				t.Error("times are told apart too", l[i])
			}
		}
	}
}

// spoil overwrites routes, with the spare room of all their lists.
func spoil(l []api.Route) {
	for i := range l {
		hops := l[i].Hops[:cap(l[i].Hops)]
		for j := range hops {
			hops[j].ID = -8
		}
	}
	l = l[:cap(l)]
	for i := range l {
		l[i] = api.Route{Arrive: -8}
	}
}

func TestNothingIsSharedP13_4(t *testing.T) {
	given := func() []api.Route {
		l := append(mixed(rising()), route(-9, -9, 4))
		for i := range l {
			l[i].Hops = append(slices.Clone(l[i].Hops), api.Hop{ID: -9})[:len(l[i].Hops)]
		}
		return l
	}
	full := given()
	l := full[:len(full)-1]
	spoil(order.Sort(l))
	row := full[:1]
	spoil(order.Insert(row, full[2], 9))
	spoil(order.Insert(row, full[2], 1))
	spoil(order.Insert(row, full[2], 0))
	if !same(full, given()) {
		t.Error("what was handed in changed")
	}
	for _, r := range full {
		if r.Hops[:len(r.Hops)+1][len(r.Hops)].ID == -8 {
			t.Error("spare room changed", r)
		}
	}
	for _, most := range []int{0, 1, 3} {
		first := order.Insert(order.Sort(l), full[2], most)
		spare := first[:cap(first)]
		for _, r := range spare[len(first):] {
			if len(r.Hops) > 0 || r.Arrive != 0 {
				t.Error("what is cut off is laid behind", most, r)
			}
		}
	}
}

func TestSortedAgainTheSameP13_5(t *testing.T) {
	sorted := order.Sort(mixed(rising()))
	if again := order.Sort(sorted); !same(again, sorted) {
		t.Error(again)
	}
	for i := 1; i < len(sorted); i++ {
		if !order.Less(sorted[i-1], sorted[i]) {
			t.Error(sorted[i-1], sorted[i])
		}
	}
	for _, most := range []int{3, 8, 99} {
		for step := 1; step < len(sorted); step++ {
			if step%3 == 0 || step%5 == 0 {
				continue // Such a step does not lead to each of the 15.
			}
			var row []api.Route
			for i := range sorted {
				row = order.Insert(row, sorted[i*step%len(sorted)], most)
			}
			if !same(row, sorted[:min(most, len(sorted))]) {
				t.Error("it matters in which order routes are inserted", most, step)
			}
		}
	}
}
