package early_test

import (
	"slices"
	"testing"

	"felucca/api"
	"felucca/early"
	"felucca/hop"
	"felucca/path"
	"felucca/trial"
)

// some are right edges: 1 to 2, 2 to 3, and 1 to 3, which is later; 3 to 1, and 3 to 4, which is too narrow for 5.
func some() []api.Edge {
	return []api.Edge{
		{ID: 2, From: 1, To: 2, Open: 10, End: 20, Rate: 3, Owlt: 4, Room: 30}, {ID: 4, From: 2, To: 3, Open: 5, End: 30, Rate: 2, Owlt: 1, Room: 50},
		{ID: 5, From: 3, To: 1, Open: 0, End: 40, Rate: 9, Room: 360}, {ID: 9, From: 1, To: 3, Open: 30, End: 40, Rate: 9, Room: 90},
		{ID: 10, From: 3, To: 4, Open: 0, End: 90, Rate: 1, Room: 4},
	}
}

func TestTimesP15_1(t *testing.T) {
	for _, x := range []struct {
		from, now, size int
		shut            []int
		want            []api.Ready
	}{
		{1, 10, 7, nil, []api.Ready{{Node: 1, At: 10}, {Node: 2, At: 17}, {Node: 3, At: 22}}},
		{1, 10, 4, nil, []api.Ready{{Node: 1, At: 10}, {Node: 2, At: 16}, {Node: 3, At: 19}, {Node: 4, At: 23}}},
		{1, 10, 4, []int{2}, []api.Ready{{Node: 1, At: 10}, {Node: 3, At: 31}, {Node: 4, At: 35}}},
		{1, 10, 4, []int{3}, []api.Ready{{Node: 1, At: 10}, {Node: 2, At: 16}}},
		{1, 10, 4, []int{4, 7, 1, -3, 4}, []api.Ready{{Node: 1, At: 10}, {Node: 2, At: 16}, {Node: 3, At: 19}}},
		{1, 20, 4, nil, []api.Ready{{Node: 1, At: 20}, {Node: 3, At: 31}, {Node: 4, At: 35}}},
		{1, 40, 0, nil, []api.Ready{{Node: 1, At: 40}}},
		{3, 0, 0, nil, []api.Ready{{Node: 1, At: 0}, {Node: 2, At: 14}, {Node: 3, At: 0}, {Node: 4, At: 0}}},
		{255, 1 << 40, 1<<40 - 1, []int{255}, []api.Ready{{Node: 255, At: 1 << 40}}},
	} {
		if got := early.Times(some(), x.from, x.now, x.size, x.shut...); !slices.Equal(got, x.want) {
			t.Error(x, got)
		}
	}
	if got := early.Times(nil, 7, 5, 3); !slices.Equal(got, []api.Ready{{Node: 7, At: 5}}) {
		t.Error("without edges: from, at now", got)
	}
}

func TestNotRightToAskP15_1(t *testing.T) {
	none := func(l []api.Edge, from, now, size int) {
		t.Helper()
		if got := early.Times(l, from, now, size); len(got) != 0 {
			t.Error(got)
		}
		if early.Reaches(l, from, from, now, size, api.MaxInt) {
			t.Error("Reaches")
		}
	}
	twice, late := some(), some()
	twice[1].ID, late[4].Open = 2, -1
	none(twice, 1, 0, 0)
	none(late, 1, 0, 0)
	none([]api.Edge{{}}, 1, 0, 0)
	none([]api.Edge{{ID: 1, From: 1, To: 999, Open: 0, End: 9, Rate: 1}}, 1, 0, 0)
	for _, n := range []int{0, -1, 256, api.MinInt, api.MaxInt} {
		none(some(), n, 0, 0)
		if early.Reaches(some(), 1, n, 0, 0, api.MaxInt) {
			t.Error("to is no node", n)
		}
	}
	for _, n := range []int{-1, 1<<40 + 1, api.MinInt, api.MaxInt} {
		none(some(), 1, n, 0)
	}
	for _, n := range []int{-1, 1 << 40, api.MinInt, api.MaxInt} {
		none(some(), 1, 0, n)
	}
}

func TestAtP15_2(t *testing.T) {
	r := []api.Ready{{Node: 3, At: 9}, {Node: -2, At: api.MinInt}, {Node: 3, At: 4}, {}}
	for node, want := range map[int]int{3: 9, -2: api.MinInt, 0: 0} {
		if at, ok := early.At(r, node); at != want || !ok {
			t.Error(node, at, ok)
		}
	}
	for _, node := range []int{1, 9, api.MaxInt} {
		if at, ok := early.At(r, node); at != 0 || ok {
			t.Error(node, at, ok)
		}
	}
	if at, ok := early.At(nil, 0); at != 0 || ok {
		t.Error(at, ok)
	}
}

func TestReachesP15_2(t *testing.T) {
	for _, x := range []struct {
		from, to, now, size, by int
		want                    bool
	}{
		{1, 3, 10, 7, 22, true}, {1, 3, 10, 7, 21, false}, {1, 3, 10, 7, api.MaxInt, true}, {1, 3, 10, 7, api.MinInt, false}, {1, 4, 10, 7, api.MaxInt, false}, {1, 4, 10, 4, 23, true},
		{1, 1, 10, 7, 10, true}, {1, 1, 10, 7, 9, false}, {4, 1, 0, 0, api.MaxInt, false}, {9, 9, 0, 0, 0, true}, {9, 8, 0, 0, 0, false},
	} {
		if got := early.Reaches(some(), x.from, x.to, x.now, x.size, x.by); got != x.want {
			t.Error(x, got)
		}
	}
}

// slowTimes lets walks grow by one edge, till no time is better.
func slowTimes(l []api.Edge, from, now, size int, shut []int) []api.Ready {
	times := map[int]int{from: now}
	for range l {
		for _, e := range l {
			at, ok := times[e.From]
			_, there, passes := hop.Pass(e, at, size)
			if !ok || !passes || e.To == from || slices.Contains(shut, e.To) {
				continue
			}
			if best, known := times[e.To]; !known || there < best {
				times[e.To] = there
			}
		}
	}
	var r []api.Ready
	for node := range 256 {
		if at, ok := times[node]; ok {
			r = append(r, api.Ready{Node: node, At: at})
		}
	}
	return r
}

func TestTimesAreTheEarliestP15_1(t *testing.T) {
	d, long := &trial.Dice{Seed: 15}, 0
	for range 4000 {
		l := trial.Edges(d, 2+d.Throw(6), d.Throw(25))
		from, now, size := 1+d.Throw(4), d.Throw(8), d.Throw(4)
		var shut []int
		for range d.Throw(3) {
			shut = append(shut, d.Throw(7))
		}
		got, want := early.Times(l, from, now, size, shut...), slowTimes(l, from, now, size, shut)
		if !slices.Equal(got, want) {
			t.Fatal(l, from, now, size, shut, got, want)
		}
		long = max(long, len(got))
	}
	if long < 5 {
		t.Error("too few nodes were reached:", long)
	}
}

func TestNothingIsSharedP15_3(t *testing.T) {
	l, shut := append(some(), api.Edge{ID: -7}), []int{2, -7}
	r := early.Times(l[:5], 1, 10, 4, shut[:1]...)
	for i := range r[:cap(r)] {
		r[:cap(r)][i] = api.Ready{Node: -8}
	}
	early.Reaches(l[:5], 1, 3, 10, 4, 30)
	if !slices.Equal(l, append(some(), api.Edge{ID: -7})) || !slices.Equal(shut, []int{2, -7}) {
		t.Error(l, shut)
	}
	if again := early.Times(some(), 1, 10, 4, 2); !slices.Equal(again, []api.Ready{{Node: 1, At: 10}, {Node: 3, At: 31}, {Node: 4, At: 35}}) {
		t.Error(again)
	}
}

func TestNowhereLaterP15_4(t *testing.T) {
	d := &trial.Dice{Seed: 154}
	for range 1000 {
		l := trial.Edges(d, 2+d.Throw(6), d.Throw(25))
		from, now, size := 1+d.Throw(4), 1+d.Throw(8), d.Throw(4)
		r := early.Times(l, from, now, size)
		sooner := early.Times(l, from, d.Throw(now), size)
		for _, one := range r {
			if at, ok := early.At(sooner, one.Node); !ok || at > one.At {
				t.Fatal("who begins earlier is nowhere later", one, at, ok)
			}
		}
		for _, e := range l {
			at, ok := early.At(r, e.From)
			if !ok {
				continue
			}
			hops, ok := path.Walk(l, []int{e.ID}, e.From, at, size)
			if !ok || e.To == from {
				continue
			}
			if told, ok := early.At(r, e.To); !ok || told > hops[0].Arrive {
				t.Fatal("no edge leads anywhere earlier than it is told", e, told, ok)
			}
		}
	}
}
