package bundle_test

import (
	"slices"
	"testing"

	"felucca/api"
	"felucca/best"
	"felucca/bundle"
	"felucca/ledger"
	"felucca/order"
	"felucca/path"
	"felucca/plan"
	"felucca/trial"
	"felucca/view"
)

// example is the plan of the document's example, with one more contact from 1 to 3, which is late.
func example() api.Plan {
	return api.Plan{
		Contacts: []api.Contact{{ID: 1, From: 1, To: 2, Start: 10, End: 20, Rate: 3}, {ID: 5, From: 1, To: 3, Start: 60, End: 70, Rate: 9}, {ID: 2, From: 2, To: 3, Start: 5, End: 30, Rate: 2}},
		Ranges:   []api.Range{{From: 1, To: 2, Start: 0, End: 90, Owlt: 4}, {From: 1, To: 3, Start: 50, End: 90, Owlt: 6}, {From: 2, To: 3, Start: 0, End: 90, Owlt: 1}},
		Clock:    3, Version: 6,
	}
}

func TestRouteP20_1(t *testing.T) {
	busy := []api.Booked{{ID: 1, Used: [3]int{0, 10, 0}}}
	for _, x := range []struct {
		l    []api.Booked
		b    api.Bundle
		want api.Route
	}{
		{nil, api.Bundle{From: 1, To: 3, Size: 7, Deadline: 22}, api.Route{Hops: []api.Hop{{ID: 1, Send: 10, Arrive: 17}, {ID: 2, Send: 17, Arrive: 22}}, Arrive: 22}},
		{busy, api.Bundle{From: 1, To: 3, Size: 7, Class: 2, Deadline: 22}, api.Route{Hops: []api.Hop{{ID: 1, Send: 10, Arrive: 17}, {ID: 2, Send: 17, Arrive: 22}}, Arrive: 22}},
		{busy, api.Bundle{From: 1, To: 3, Size: 7, Class: 1, Deadline: 100}, api.Route{Hops: []api.Hop{{ID: 1, Send: 14, Arrive: 21}, {ID: 2, Send: 21, Arrive: 26}}, Arrive: 26}},
		{busy, api.Bundle{From: 1, To: 3, Size: 21, Class: 0, Deadline: 100}, api.Route{Hops: []api.Hop{{ID: 5, Send: 60, Arrive: 69}}, Arrive: 69}},
		{nil, api.Bundle{From: 1, To: 3, Size: 90, Deadline: 1 << 40}, api.Route{Hops: []api.Hop{{ID: 5, Send: 60, Arrive: 76}}, Arrive: 76}},
		{busy, api.Bundle{From: 3, To: 3, Size: 1<<40 - 1, Class: 2, Deadline: 3}, api.Route{Arrive: 3}},
		{nil, api.Bundle{From: 255, To: 255, Deadline: 4}, api.Route{Arrive: 3}},
	} {
		r, code := bundle.Route(example(), x.l, x.b)
		if code != api.OK || r.Arrive != x.want.Arrive || !slices.Equal(r.Hops, x.want.Hops) {
			t.Error(x, r, code)
		}
	}
	for _, x := range []struct {
		b    api.Bundle
		code api.Errno
	}{
		{api.Bundle{From: 1, To: 3, Size: 7, Deadline: 21}, api.ErrNone}, {api.Bundle{From: 1, To: 3, Size: 91, Deadline: 1 << 40}, api.ErrNone}, {api.Bundle{From: 3, To: 1, Deadline: 1 << 40}, api.ErrNone},
		{api.Bundle{From: 1, To: 1, Deadline: 2}, api.ErrNone}, {api.Bundle{From: 1, To: 255, Deadline: 1 << 40}, api.ErrNone},
		{api.Bundle{}, api.ErrArg}, {api.Bundle{From: 0, To: 3, Deadline: 99}, api.ErrArg}, {api.Bundle{From: 1, To: 256, Deadline: 99}, api.ErrArg}, {api.Bundle{From: 1, To: 1, Size: -1, Deadline: 99}, api.ErrArg},
		{api.Bundle{From: 1, To: 1, Size: 1 << 40, Deadline: 99}, api.ErrArg}, {api.Bundle{From: 1, To: 1, Class: 3, Deadline: 99}, api.ErrArg}, {api.Bundle{From: 1, To: 1, Class: -1, Deadline: 99}, api.ErrArg},
		{api.Bundle{From: 1, To: 1, Deadline: -1}, api.ErrArg}, {api.Bundle{From: 1, To: 1, Deadline: 1<<40 + 1}, api.ErrArg},
	} {
		if r, code := bundle.Route(example(), nil, x.b); code != x.code || r.Arrive != 0 || len(r.Hops) != 0 {
			t.Error(x, r, code)
		}
	}
}

func TestFitsP20_2(t *testing.T) {
	b := api.Bundle{From: 1, To: 3, Size: 7, Deadline: 22}
	good := func() api.Route {
		return api.Route{Hops: []api.Hop{{ID: 1, Send: 10, Arrive: 17}, {ID: 2, Send: 17, Arrive: 22}}, Arrive: 22}
	}
	if !bundle.Fits(example(), nil, b, good()) {
		t.Error("it fits")
	}
	later := b
	later.Deadline = 80
	if !bundle.Fits(example(), nil, later, api.Route{Hops: []api.Hop{{ID: 5, Send: 60, Arrive: 67}}, Arrive: 67}) {
		t.Error("one that is not the best fits too")
	}
	if !bundle.Fits(example(), nil, api.Bundle{From: 2, To: 2, Deadline: 3}, api.Route{Arrive: 3}) {
		t.Error("from a node to itself")
	}
	for _, set := range []func(b *api.Bundle){
		func(b *api.Bundle) { b.From = 2 }, func(b *api.Bundle) { b.To = 2 }, func(b *api.Bundle) { b.Size = 9 }, func(b *api.Bundle) { b.Size = 10 }, func(b *api.Bundle) { b.Deadline = 21 },
		func(b *api.Bundle) { b.Class = 3 }, func(b *api.Bundle) { b.Class = -1 }, func(b *api.Bundle) { b.Deadline = 1<<40 + 1 }, func(b *api.Bundle) { b.Size = -1 },
	} {
		wrong := b
		if set(&wrong); bundle.Fits(example(), nil, wrong, good()) {
			t.Error(wrong)
		}
	}
	for _, set := range []func(r *api.Route){
		func(r *api.Route) { r.Arrive = 21 }, func(r *api.Route) { r.Arrive = 0 }, func(r *api.Route) { r.Hops[0].Send = 11 }, func(r *api.Route) { r.Hops[1].Arrive = 21 }, func(r *api.Route) { r.Hops[0].ID = 5 },
		func(r *api.Route) { r.Hops = r.Hops[:1] }, func(r *api.Route) { r.Hops = nil }, func(r *api.Route) { r.Hops = append(r.Hops, r.Hops[1]) }, func(r *api.Route) { *r = api.Route{} },
	} {
		wrong := good()
		if set(&wrong); bundle.Fits(example(), nil, b, wrong) {
			t.Error(wrong)
		}
	}
	eight := b
	if eight.Size = 8; !bundle.Fits(example(), nil, eight, good()) {
		t.Error("one that takes as long fits too")
	}
	busy := []api.Booked{{ID: 1, Used: [3]int{0, 1, 0}}}
	if bundle.Fits(example(), busy, b, good()) {
		t.Error("what is booked goes ahead")
	}
	if b.Class = 2; !bundle.Fits(example(), busy, b, good()) {
		t.Error("what is booked of a lower class does not matter")
	}
}

func TestListP20_3(t *testing.T) {
	p := example()
	for k := 1; k <= 8; k++ {
		got, code := bundle.List(p, 1, 3, k)
		want := []api.Route{
			{Hops: []api.Hop{{ID: 1, Send: 10, Arrive: 14}, {ID: 2, Send: 14, Arrive: 15}}, Arrive: 15}, {Hops: []api.Hop{{ID: 5, Send: 60, Arrive: 66}}, Arrive: 66},
		}
		if code != api.OK || !order.Same(got, want[:min(k, 2)]) {
			t.Error(k, got, code)
		}
	}
	if got, code := bundle.List(p, 7, 7, 8); code != api.OK || len(got) != 1 || got[0].Arrive != 3 || len(got[0].Hops) != 0 {
		t.Error(got, code)
	}
	if got, code := bundle.List(p, 3, 1, 8); code != api.OK || len(got) != 0 {
		t.Error(got, code)
	}
	for _, x := range [][3]int{{0, 3, 1}, {256, 3, 1}, {1, 0, 1}, {1, 256, 1}, {-1, -1, 1}, {1, 3, 0}, {1, 3, 9}, {1, 3, -1}, {1, 3, api.MaxInt}, {1, 3, api.MinInt}, {1, 1, 0}} {
		if got, code := bundle.List(p, x[0], x[1], x[2]); code != api.ErrArg || len(got) != 0 {
			t.Error(x, got, code)
		}
	}
}

// fitting is all routes that fit b, found by trying all.
func fitting(p api.Plan, l []api.Booked, b api.Bundle) []api.Route {
	return trial.Routes(view.All(p, l, b.Class), b.From, b.To, p.Clock, b.Size, b.Deadline)
}

func TestRouteIsTheFirstThatFitsP20_1(t *testing.T) {
	d, found := &trial.Dice{Seed: 20}, 0
	for range 600 {
		p := trial.Plan(d, 2+d.Throw(4), 4+d.Throw(12))
		l := trial.Booked(d, p)
		b := api.Bundle{From: 1 + d.Throw(5), To: 1 + d.Throw(5), Size: d.Throw(6), Class: d.Throw(3), Deadline: d.Throw(30)}
		all := fitting(p, l, b)
		for _, r := range all {
			if !bundle.Fits(p, l, b, r) {
				t.Fatal(p, l, b, r)
			}
		}
		r, code := bundle.Route(p, l, b)
		if len(all) == 0 {
			if code != api.ErrNone || r.Arrive != 0 || len(r.Hops) != 0 {
				t.Fatal(p, l, b, r, code)
			}
			continue
		}
		if want := order.Sort(all)[0]; code != api.OK || !path.Same(r, want) {
			t.Fatal(p, l, b, r, code, want)
		}
		found++
	}
	if found < 100 {
		t.Error("too little was found:", found)
	}
}

func TestListIsBareP20_3(t *testing.T) {
	d := &trial.Dice{Seed: 203}
	for range 150 {
		p := trial.Plan(d, 2+d.Throw(5), 4+d.Throw(20))
		from, to, k := 1+d.Throw(5), 1+d.Throw(5), 1+d.Throw(8)
		got, code := bundle.List(p, from, to, k)
		if code != api.OK || !order.Same(got, best.Routes(view.Bare(p), from, to, p.Clock, 0, 1<<40, k)) {
			t.Fatal(p, from, to, k, got, code)
		}
	}
}

func TestNothingIsSharedP20_4(t *testing.T) {
	p, l := example(), []api.Booked{{ID: 1, Used: [3]int{0, 1, 0}}}
	r, _ := bundle.Route(p, l, api.Bundle{From: 1, To: 3, Deadline: 99})
	was := slices.Clone(r.Hops)
	bundle.Fits(p, l, api.Bundle{From: 1, To: 3, Deadline: 99}, r)
	list, _ := bundle.List(p, 1, 3, 2)
	if !slices.Equal(r.Hops, was) {
		t.Error("Fits changes nothing", r)
	}
	for _, hops := range [][]api.Hop{r.Hops, list[0].Hops, list[1].Hops} {
		for i := range hops[:cap(hops)] {
			hops[:cap(hops)][i] = api.Hop{ID: -8}
		}
	}
	if !plan.Same(p, example()) || !ledger.Same(l, []api.Booked{{ID: 1, Used: [3]int{0, 1, 0}}}) {
		t.Error(p, l)
	}
	if again, _ := bundle.Route(p, l, api.Bundle{From: 1, To: 3, Deadline: 99}); !slices.Equal(again.Hops, was) {
		t.Error(again)
	}
}

func TestNoBetterRouteP20_5(t *testing.T) {
	d, found := &trial.Dice{Seed: 205}, 0
	for range 1000 {
		p := trial.Plan(d, 2+d.Throw(4), 4+d.Throw(20))
		l := trial.Booked(d, p)
		b := api.Bundle{From: 1 + d.Throw(5), To: 1 + d.Throw(5), Size: d.Throw(6), Class: d.Throw(2), Deadline: 10 + d.Throw(20)}
		r, code := bundle.Route(p, l, b)
		greater, sooner, higher := b, b, b
		greater.Size += d.Throw(4)
		sooner.Deadline -= d.Throw(10)
		higher.Class++
		for _, o := range []api.Bundle{greater, sooner} {
			if other, c := bundle.Route(p, l, o); c == api.OK && (code != api.OK || other.Arrive < r.Arrive) {
				t.Fatal("no better one", b, o, r, other)
			}
		}
		if other, c := bundle.Route(p, l, higher); code == api.OK && (c != api.OK || other.Arrive > r.Arrive) {
			t.Fatal("no worse one", b, r, other)
		}
		if code == api.OK {
			found++
		}
	}
	if found < 200 {
		t.Error("too little was found:", found)
	}
}
