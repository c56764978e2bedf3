package late_test

import (
	"slices"
	"testing"

	"felucca/api"
	"felucca/hop"
	"felucca/late"
	"felucca/trial"
)

// some are right edges: 1 to 2, 2 to 3, 3 to 1, and 1 to 3 directly, which ends early and is slow.
func some() []api.Edge {
	return []api.Edge{
		{ID: 2, From: 1, To: 2, Open: 10, End: 20, Rate: 3, Owlt: 4, Room: 30}, {ID: 4, From: 2, To: 3, Open: 5, End: 30, Rate: 2, Owlt: 1, Room: 50},
		{ID: 5, From: 3, To: 1, Open: 0, End: 40, Rate: 9, Room: 360}, {ID: 9, From: 1, To: 3, Open: 0, End: 12, Rate: 9, Owlt: 8, Room: 90},
	}
}

func TestTimesP16_1(t *testing.T) {
	for _, x := range []struct {
		to, by, size, hops int
		shut               []int
		want               []api.Ready
	}{
		{3, 30, 7, 0, nil, []api.Ready{{Node: 3, At: 30}}},
		{3, 30, 7, 1, nil, []api.Ready{{Node: 1, At: 11}, {Node: 2, At: 25}, {Node: 3, At: 30}}},
		{3, 30, 7, 2, nil, []api.Ready{{Node: 1, At: 17}, {Node: 2, At: 25}, {Node: 3, At: 30}}},
		{3, 30, 7, api.MaxInt, nil, []api.Ready{{Node: 1, At: 17}, {Node: 2, At: 25}, {Node: 3, At: 30}}},
		{3, 30, 7, 9, []int{2}, []api.Ready{{Node: 1, At: 11}, {Node: 2, At: 25}, {Node: 3, At: 30}}},
		{3, 30, 7, 9, []int{3, 1}, []api.Ready{{Node: 1, At: 17}, {Node: 2, At: 25}, {Node: 3, At: 30}}},
		{3, 22, 7, 9, nil, []api.Ready{{Node: 1, At: 11}, {Node: 2, At: 17}, {Node: 3, At: 22}}},
		{3, 9, 7, 9, nil, []api.Ready{{Node: 1, At: 0}, {Node: 3, At: 9}}},
		{3, 8, 7, 9, nil, []api.Ready{{Node: 3, At: 8}}},
		{1, 40, 0, 9, nil, []api.Ready{{Node: 1, At: 40}, {Node: 2, At: 29}, {Node: 3, At: 39}}},
		{1, 40, 0, 9, []int{3}, []api.Ready{{Node: 1, At: 40}, {Node: 3, At: 39}}},
		{7, 1 << 40, 1<<40 - 1, 9, []int{7}, []api.Ready{{Node: 7, At: 1 << 40}}},
	} {
		if got := late.Times(some(), x.to, x.by, x.size, x.hops, x.shut...); !slices.Equal(got, x.want) {
			t.Error(x, got)
		}
	}
	for _, hops := range []int{-1, api.MinInt} {
		if got := late.Times(some(), 3, 30, 7, hops); len(got) != 0 {
			t.Error(hops, got)
		}
	}
}

// wrong are edges that are not right.
func wrong() [][]api.Edge {
	twice, never := some(), some()
	twice[1].ID, never[3].Open = 2, -1
	return [][]api.Edge{twice, never, {{}}, {{ID: 1, From: 999, To: 3, Open: 0, End: 9, Rate: 1}}}
}

func TestNotRightToAskP16_1(t *testing.T) {
	none := func(l []api.Edge, to, by, size int) {
		t.Helper()
		if got := late.Times(l, to, by, size, 9); len(got) != 0 {
			t.Error(got)
		}
		if n, ok := late.Fewest(l, 3, to, 0, by, size); n != 0 || ok {
			t.Error("Fewest", n, ok)
		}
	}
	for _, l := range wrong() {
		none(l, 3, 30, 0)
	}
	for _, n := range []int{0, -1, 256, api.MinInt, api.MaxInt} {
		none(some(), n, 30, 0)
		if n, ok := late.Fewest(some(), n, 3, 0, 30, 0); n != 0 || ok {
			t.Error("from is no node", n, ok)
		}
		if n, ok := late.Fewest(some(), n, n, 0, 30, 0); n != 0 || ok {
			t.Error("both are no nodes", n, ok)
		}
	}
	for _, n := range []int{-1, 1<<40 + 1, api.MinInt, api.MaxInt} {
		none(some(), 3, n, 0)
		if n, ok := late.Fewest(some(), 3, 3, n, 1<<40, 0); n != 0 || ok {
			t.Error("now is no time", n, ok)
		}
	}
	for _, n := range []int{-1, 1 << 40, api.MinInt, api.MaxInt} {
		none(some(), 3, 30, n)
	}
}

func TestFewestP16_2(t *testing.T) {
	for _, x := range []struct {
		from, to, now, by, size int
		shut                    []int
		want                    int
		ok                      bool
	}{
		{1, 3, 11, 30, 7, nil, 1, true}, {1, 3, 12, 30, 7, nil, 2, true}, {1, 3, 17, 30, 7, nil, 2, true}, {1, 3, 18, 30, 7, nil, 0, false}, {1, 3, 12, 30, 7, []int{2}, 0, false},
		{1, 3, 11, 30, 7, []int{2, 3, 1}, 1, true}, {1, 3, 0, 8, 0, nil, 1, true}, {1, 3, 0, 7, 0, nil, 0, false}, {2, 1, 0, 40, 0, nil, 2, true}, {2, 1, 0, 40, 0, []int{3}, 0, false},
		{3, 3, 5, 5, 7, nil, 0, true}, {3, 3, 6, 5, 7, nil, 0, false}, {3, 3, 5, 5, 7, []int{3}, 0, true}, {9, 9, 1 << 40, 1 << 40, 0, nil, 0, true}, {9, 8, 0, 1 << 40, 0, nil, 0, false},
	} {
		if n, ok := late.Fewest(some(), x.from, x.to, x.now, x.by, x.size, x.shut...); n != x.want || ok != x.ok {
			t.Error(x, n, ok)
		}
	}
}

// inTime tries all walks of at most so many hops, as the chapter tells them.
func inTime(l []api.Edge, node, to, at, by, size, hops int, shut []int) bool {
	if node == to {
		return at <= by
	}
	if hops <= 0 {
		return false
	}
	for _, e := range l {
		if e.From != node || e.To != to && slices.Contains(shut, e.To) {
			continue
		}
		if _, there, ok := hop.Pass(e, at, size); ok && inTime(l, e.To, to, there, by, size, hops-1, shut) {
			return true
		}
	}
	return false
}

// slowTimes tries all times below most.
func slowTimes(l []api.Edge, to, by, size, hops int, shut []int, most int) []api.Ready {
	var r []api.Ready
	for node := 1; node < 10; node++ {
		for at := most; at >= 0; at-- {
			if inTime(l, node, to, at, by, size, min(hops, 5), shut) {
				r = append(r, api.Ready{Node: node, At: at})
				break
			}
		}
	}
	return r
}

func TestTimesAreTheLatestP16_1(t *testing.T) {
	d, long := &trial.Dice{Seed: 16}, 0
	for range 500 {
		l := trial.Edges(d, 2+d.Throw(4), d.Throw(14))
		to, by, size, hops := 1+d.Throw(4), d.Throw(25), d.Throw(3), d.Throw(6)
		var shut []int
		for range d.Throw(3) {
			shut = append(shut, d.Throw(6))
		}
		got, want := late.Times(l, to, by, size, hops, shut...), slowTimes(l, to, by, size, hops, shut, 25)
		if !slices.Equal(got, want) {
			t.Fatal(l, to, by, size, hops, shut, got, want)
		}
		long = max(long, len(got))
		from, now := 1+d.Throw(5), d.Throw(12)
		few, ok := late.Fewest(l, from, to, now, by, size, shut...)
		if ok != inTime(l, from, to, now, by, size, 5, shut) {
			t.Fatal(l, from, to, now, by, size, shut, few, ok)
		}
		if ok && (!inTime(l, from, to, now, by, size, few, shut) || few > 0 && inTime(l, from, to, now, by, size, few-1, shut)) {
			t.Fatal(l, from, to, now, by, size, shut, few)
		}
	}
	if long < 4 {
		t.Error("too few nodes were told:", long)
	}
}

func TestNothingIsSharedP16_3(t *testing.T) {
	l, shut := append(some(), api.Edge{ID: -7}), []int{2, -7}
	want := []api.Ready{{Node: 1, At: 11}, {Node: 2, At: 25}, {Node: 3, At: 30}}
	r := late.Times(l[:4], 3, 30, 7, 9, shut[:1]...)
	late.Fewest(l[:4], 1, 3, 0, 30, 7, shut[:1]...)
	for i := range r[:cap(r)] {
		r[:cap(r)][i] = api.Ready{Node: -8}
	}
	if !slices.Equal(l, append(some(), api.Edge{ID: -7})) || !slices.Equal(shut, []int{2, -7}) {
		t.Error(l, shut)
	}
	if again := late.Times(some(), 3, 30, 7, 9, 2); !slices.Equal(again, want) {
		t.Error(again)
	}
}

func TestNoEarlierWithMoreP16_4(t *testing.T) {
	d := &trial.Dice{Seed: 164}
	for range 500 {
		l := trial.Edges(d, 2+d.Throw(6), d.Throw(25))
		to, by, size := 1+d.Throw(4), d.Throw(25), d.Throw(3)
		last := late.Times(l, to, by, size, 0)
		for hops := 1; hops < 8; hops++ {
			now := late.Times(l, to, by, size, hops)
			noEarlier(t, last, now)
			noEarlier(t, now, late.Times(l, to, by+1+d.Throw(5), size, hops))
			last = now
		}
		for _, r := range last {
			few, ok := late.Fewest(l, r.Node, to, r.At, by, size)
			if sooner, still := late.Fewest(l, r.Node, to, d.Throw(r.At+1), by, size); !ok || !still || sooner > few {
				t.Fatal("who may be in time when ready at a time may be when ready earlier", r, few, sooner)
			}
		}
	}
}

// noEarlier holds that all nodes of l are in more, no earlier.
func noEarlier(t *testing.T, l, more []api.Ready) {
	t.Helper()
	for _, r := range l {
		i := slices.IndexFunc(more, func(m api.Ready) bool { return m.Node == r.Node })
		if i < 0 || more[i].At < r.At {
			t.Fatal(r, more)
		}
	}
}
