package cache_test

import (
	"slices"
	"testing"

	"felucca/api"
	"felucca/bundle"
	"felucca/cache"
	"felucca/order"
	"felucca/plan"
	"felucca/trial"
)

// some is a right plan at 3: by 1 from 1 to 2, by 2 from 2 to 3, and by 5 from 1 to 3.
func some() api.Plan {
	return api.Plan{
		Contacts: []api.Contact{{ID: 1, From: 1, To: 2, Start: 10, End: 20, Rate: 3}, {ID: 5, From: 1, To: 3, Start: 60, End: 70, Rate: 9}, {ID: 2, From: 2, To: 3, Start: 5, End: 30, Rate: 2}},
		Ranges:   []api.Range{{From: 1, To: 2, Start: 0, End: 90, Owlt: 4}, {From: 1, To: 3, Start: 50, End: 90, Owlt: 6}, {From: 2, To: 3, Start: 0, End: 90, Owlt: 1}},
		Clock:    3, Version: 6,
	}
}

func kept(t *testing.T, c *cache.Cache, want ...[2]int) {
	t.Helper()
	if got := c.Kept(); !slices.Equal(got, want) {
		t.Error("kept", got, "for", want)
	}
}

func stats(t *testing.T, c *cache.Cache, byKept, made int) {
	t.Helper()
	if a, b := c.Stats(); a != byKept || b != made {
		t.Error("stats", a, b, "for", byKept, made)
	}
}

// filled is a cache of rows from each node to each other one, and from 1 to itself.
func filled() *cache.Cache {
	c := cache.New()
	for _, x := range [][2]int{{3, 1}, {2, 3}, {1, 3}, {1, 2}, {1, 1}, {2, 1}} {
		c.List(some(), x[0], x[1], 1)
	}
	return c
}

func TestKeptAndStatsP23_1(t *testing.T) {
	c := cache.New()
	kept(t, c)
	stats(t, c, 0, 0)
	c.List(some(), 1, 3, 2)
	kept(t, c, [2]int{1, 3})
	stats(t, c, 0, 1)
	c.List(some(), 1, 3, 8)
	c.List(some(), 1, 3, 1)
	kept(t, c, [2]int{1, 3})
	stats(t, c, 2, 1)
	c.List(some(), 255, 2, 1)
	c.List(some(), 3, 1, 1)
	c.List(some(), 3, 1, 1)
	c.List(some(), 3, 3, 1)
	kept(t, c, [2]int{1, 3}, [2]int{3, 1}, [2]int{3, 3}, [2]int{255, 2})
	stats(t, c, 3, 4)
}

func TestListP23_2(t *testing.T) {
	c := cache.New()
	for range 2 {
		for _, x := range [][3]int{{1, 3, 8}, {1, 3, 1}, {2, 3, 2}, {3, 1, 3}, {1, 1, 1}, {9, 9, 8}, {1, 3, 2}} {
			got, code := c.List(some(), x[0], x[1], x[2])
			want, wantCode := bundle.List(some(), x[0], x[1], x[2])
			if code != wantCode || !order.Same(got, want) {
				t.Error(x, got, code)
			}
		}
	}
	before := c.Kept()
	byKept, made := c.Stats()
	for _, x := range [][3]int{{0, 3, 1}, {1, 256, 1}, {1, 3, 0}, {1, 3, 9}, {1, 3, -1}, {-1, 3, 1}, {1, 3, api.MaxInt}, {api.MinInt, 1, 1}, {4, 4, 0}, {4, 5, 9}} {
		if got, code := c.List(some(), x[0], x[1], x[2]); code != api.ErrArg || len(got) != 0 {
			t.Error(x, got, code)
		}
	}
	kept(t, c, before...)
	stats(t, c, byKept, made)
}

func TestListIsByTheRowThatIsKeptP23_2(t *testing.T) {
	c := cache.New()
	was, _ := c.List(some(), 1, 3, 8)
	if got, code := c.List(api.Plan{Clock: 50}, 1, 3, 8); code != api.OK || !order.Same(got, was) {
		t.Error("it is by the row, not by the plan", got, code)
	}
	if got, _ := c.List(api.Plan{Clock: 50}, 2, 2, 8); len(got) != 1 || got[0].Arrive != 50 {
		t.Error("a row that is made is by the plan, at its Clock", got)
	}
}

func TestEditP23_3(t *testing.T) {
	all := filled().Kept()
	for _, x := range []struct {
		d    api.Directive
		left [][2]int
	}{
		{api.Directive{Op: api.OpDelete, Kind: api.KindContact, C: api.Contact{ID: 1}}, [][2]int{{1, 1}, {2, 1}, {2, 3}, {3, 1}}},
		{api.Directive{Op: api.OpDelete, Kind: api.KindContact, C: api.Contact{ID: 2}}, [][2]int{{1, 1}, {1, 2}, {2, 1}, {3, 1}}},
		{api.Directive{Op: api.OpDelete, Kind: api.KindContact, C: api.Contact{ID: 5}}, [][2]int{{1, 1}, {1, 2}, {2, 1}, {2, 3}, {3, 1}}},
		{api.Directive{Op: api.OpDelete, Kind: api.KindContact, C: api.Contact{ID: 7}}, all},
		{api.Directive{Op: api.OpChange, Kind: api.KindContact, C: api.Contact{ID: 1, Rate: 1}}, all},
		{api.Directive{Op: api.OpAdd, Kind: api.KindContact, C: api.Contact{ID: 9, From: 7, To: 8, Start: 0, End: 90, Rate: 1}}, nil},
		{api.Directive{Op: api.OpAdd, Kind: api.KindRange, R: api.Range{From: 7, To: 8, Start: 0, End: 9}}, nil},
		{api.Directive{Op: api.OpDelete, Kind: api.KindRange, R: api.Range{From: 7, To: 8}}, nil},
		{api.Directive{Op: api.OpChange, Kind: api.KindRange, R: api.Range{From: 7, To: 8, Owlt: 3}}, nil},
	} {
		c := filled()
		c.Edit(x.d)
		kept(t, c, x.left...)
		stats(t, c, 0, 6)
		c.List(some(), 1, 3, 1)
		if slices.Contains(x.left, [2]int{1, 3}) {
			stats(t, c, 1, 6)
		} else {
			stats(t, c, 0, 7)
		}
	}
	c := cache.New()
	c.Edit(api.Directive{})
	c.Advance(7)
	kept(t, c)
}

func TestAdvanceP23_3(t *testing.T) {
	for _, x := range []struct {
		now  int
		left [][2]int
	}{
		{3, [][2]int{{1, 2}, {1, 3}, {2, 1}, {2, 3}, {3, 1}}}, {5, [][2]int{{1, 2}, {1, 3}, {2, 1}, {2, 3}, {3, 1}}}, {6, [][2]int{{1, 2}, {1, 3}, {2, 1}, {3, 1}}},
		{10, [][2]int{{1, 2}, {1, 3}, {2, 1}, {3, 1}}}, {11, [][2]int{{2, 1}, {3, 1}}}, {api.MaxInt, [][2]int{{2, 1}, {3, 1}}}, {api.MinInt, [][2]int{{1, 2}, {1, 3}, {2, 1}, {2, 3}, {3, 1}}},
	} {
		c := filled()
		c.Advance(x.now)
		kept(t, c, x.left...)
		stats(t, c, 0, 6)
	}
}

func TestNothingIsSharedP23_4(t *testing.T) {
	c, p := cache.New(), some()
	want, _ := bundle.List(p, 1, 3, 8)
	for range 2 {
		got, _ := c.List(p, 1, 3, 8)
		if !order.Same(got, want) {
			t.Error(got)
		}
		for i := range got {
			for j := range got[i].Hops[:cap(got[i].Hops)] {
				got[i].Hops[:cap(got[i].Hops)][j] = api.Hop{ID: -8}
			}
		}
		for i := range got[:cap(got)] {
			got[:cap(got)][i] = api.Route{Arrive: -8}
		}
	}
	if !plan.Same(p, some()) {
		t.Error("what was handed in changed", p)
	}
	for i := range p.Contacts {
		p.Contacts[i].Start = 0
	}
	if got, _ := c.List(some(), 1, 3, 8); !order.Same(got, want) {
		t.Error("what was handed in was kept", got)
	}
	pairs := c.Kept()
	pairs[0] = [2]int{9, 9}
	kept(t, c, [2]int{1, 3})
}

// step is a directive that may be done to p, or fail.
func step(d *trial.Dice, p api.Plan) api.Directive {
	from := 1 + d.Throw(4)
	to := 1 + (from+d.Throw(3))%4
	c := api.Contact{ID: 1 + d.Throw(12), From: from, To: to, Start: p.Clock + d.Throw(15), End: p.Clock + 15 + d.Throw(9), Rate: 1 + d.Throw(3)}
	r := api.Range{From: from, To: to, Start: p.Clock, End: p.Clock + 30 + d.Throw(50), Owlt: d.Throw(4)}
	switch d.Throw(8) {
	case 0:
		return api.Directive{Op: api.OpDelete, Kind: api.KindContact, C: api.Contact{ID: c.ID}}
	case 1:
		return api.Directive{Op: api.OpChange, Kind: api.KindContact, C: api.Contact{ID: c.ID, Rate: c.Rate}}
	case 2:
		return api.Directive{Op: api.OpAdd, Kind: api.KindRange, R: r}
	case 3:
		r.End = 0
		return api.Directive{Op: api.OpChange, Kind: api.KindRange, R: r}
	}
	return api.Directive{Op: api.OpAdd, Kind: api.KindContact, C: c}
}

func TestEachListIsOfItsPlanP23_5(t *testing.T) {
	d := &trial.Dice{Seed: 23}
	for range 40 {
		c, p := cache.New(), trial.Plan(d, 4, 12)
		for range 200 {
			switch d.Throw(12) {
			case 0, 1:
				directive := step(d, p)
				if next, code := plan.Apply(p, directive); code == api.OK {
					p = next
					c.Edit(directive)
				}
			case 2, 3:
				now := p.Clock + d.Throw(3)
				p, _, _ = plan.Advance(p, now)
				c.Advance(now)
			}
			from, to, k := 1+d.Throw(4), 1+d.Throw(4), 1+d.Throw(8)
			got, code := c.List(p, from, to, k)
			if want, wantCode := bundle.List(p, from, to, k); code != wantCode || !order.Same(got, want) {
				t.Fatal(p, from, to, k, got, want)
			}
		}
		byKept, made := c.Stats()
		if byKept == 0 || made < 9 {
			t.Error("too little was kept, or made:", byKept, made)
		}
	}
}
