package router_test

import (
	"slices"
	"sync"
	"testing"

	"felucca/api"
	"felucca/bundle"
	"felucca/order"
	"felucca/path"
	"felucca/plan"
	"felucca/router"
	"felucca/state"
	"felucca/text"
	"felucca/trial"
)

// example is the plan of the document's example, as text.
const example = "a range 1 2 0 90 4\na range 2 3 0 90 1\na contact 1 1 2 10 20 3\na contact 2 2 3 5 30 2\n"

// loaded is a router of the example.
func loaded(t *testing.T) *router.Router {
	t.Helper()
	r := router.New()
	if f := r.Load(example); f != (api.Fault{}) {
		t.Fatal(f)
	}
	return r
}

func stats(t *testing.T, r *router.Router, byKept, made int) {
	t.Helper()
	if a, b := r.Stats(); a != byKept || b != made {
		t.Error("stats", a, b, "for", byKept, made)
	}
}

func same(a, b api.State) bool {
	return slices.Equal(a.Plan.Contacts, b.Plan.Contacts) && slices.Equal(a.Plan.Ranges, b.Plan.Ranges) && a.Plan.Clock == b.Plan.Clock && a.Plan.Version == b.Plan.Version &&
		slices.Equal(a.Booked, b.Booked)
}

func TestNewP24_1(t *testing.T) {
	r := router.New()
	if s := r.State(); !same(s, api.State{}) {
		t.Error(s)
	}
	stats(t, r, 0, 0)
	if l, code := r.List(1, 2, 8); code != api.OK || len(l) != 0 {
		t.Error(l, code)
	}
	stats(t, r, 0, 1)
}

func TestExampleP24_3(t *testing.T) {
	r := loaded(t)
	b := api.Bundle{From: 1, To: 3, Size: 7, Deadline: 100}
	want := api.Route{Hops: []api.Hop{{ID: 1, Send: 10, Arrive: 17}, {ID: 2, Send: 17, Arrive: 22}}, Arrive: 22}
	if got, code := r.Route(b); code != api.OK || !path.Same(got, want) {
		t.Error(got, code)
	}
	if code := r.Book([]int{1, 2}, 0, 7); code != api.OK {
		t.Error(code)
	}
	if got, code := r.Route(b); code != api.OK || got.Arrive != 25 || got.Hops[0].Send != 13 {
		t.Error(got, code)
	}
	if code := r.Release([]int{1, 2}, 0, 7); code != api.OK {
		t.Error(code)
	}
	if got, code := r.Route(b); code != api.OK || !path.Same(got, want) {
		t.Error(got, code)
	}
	if got, code := r.List(1, 3, 8); code != api.OK || len(got) != 1 || got[0].Arrive != 15 {
		t.Error(got, code)
	}
}

func TestErrorsP24_2(t *testing.T) {
	r := loaded(t)
	before := r.State()
	if f := r.Load("d contact 1\nd contact 1\n"); f != (api.Fault{Line: 2, Code: api.ErrNone}) {
		t.Error(f)
	}
	if f := r.Load("\nx"); f != (api.Fault{Line: 2, Code: api.ErrForm}) {
		t.Error(f)
	}
	for _, x := range []struct{ got, want api.Errno }{
		{r.Edit(api.Directive{}), api.ErrArg}, {r.Edit(api.Directive{Op: api.OpDelete, Kind: api.KindContact, C: api.Contact{ID: 7}}), api.ErrNone}, {r.Advance(-1), api.ErrPast},
		{r.Book(nil, 0, 1), api.ErrArg}, {r.Book([]int{7}, 0, 1), api.ErrNone}, {r.Book([]int{1}, 0, 31), api.ErrRoom}, {r.Release([]int{1}, 3, 1), api.ErrArg}, {r.Release([]int{1}, 0, 1), api.ErrRoom},
	} {
		if x.got != x.want {
			t.Error(x)
		}
	}
	if !same(r.State(), before) {
		t.Error("what is refused leaves the state as it was", r.State())
	}
}

func TestTheStateBecomesP24_2(t *testing.T) {
	r := router.New()
	want, _ := state.Load(state.New(), example)
	if f := r.Load(example); f != (api.Fault{}) || !same(r.State(), want) {
		t.Error(f, r.State())
	}
	d := api.Directive{Op: api.OpChange, Kind: api.KindContact, C: api.Contact{ID: 1, Rate: 5}}
	want, _ = state.Edit(want, d)
	if code := r.Edit(d); code != api.OK || !same(r.State(), want) {
		t.Error(code, r.State())
	}
	want, _ = state.Advance(want, 7)
	if code := r.Advance(7); code != api.OK || !same(r.State(), want) {
		t.Error(code, r.State())
	}
	want, _ = state.Book(want, []int{2, 1}, 1, 9)
	if code := r.Book([]int{2, 1}, 1, 9); code != api.OK || !same(r.State(), want) {
		t.Error(code, r.State())
	}
	want, _ = state.Release(want, []int{2}, 1, 4)
	if code := r.Release([]int{2}, 1, 4); code != api.OK || !same(r.State(), want) {
		t.Error(code, r.State())
	}
}

// TestTheCacheIsToldP24_2 counts which rows are kept behind each call: one is from 1 to 3, which uses both contacts, and holds till 10.
func TestTheCacheIsToldP24_2(t *testing.T) {
	for _, x := range []struct {
		name string
		call func(r *router.Router)
		kept bool
	}{
		{"nothing", func(r *router.Router) {}, true},
		{"Load of a range", func(r *router.Router) { r.Load("a range 7 8 0 9 1") }, false},
		{"Load of nothing", func(r *router.Router) { r.Load("# no") }, true},
		{"Load that fails", func(r *router.Router) { r.Load("a range 7 8 0 9 1\nd contact 7\n") }, true},
		{"Load of a change", func(r *router.Router) { r.Load("c contact 1 1\n") }, true},
		{"Load whose second line deletes", func(r *router.Router) { r.Load("c contact 1 1\nd contact 2\n") }, false},
		{"Load whose first line deletes", func(r *router.Router) { r.Load("d contact 2\nc contact 1 1\n") }, false},
		{"Edit that adds", func(r *router.Router) {
			r.Edit(api.Directive{Op: api.OpAdd, Kind: api.KindContact, C: api.Contact{ID: 9, From: 7, To: 8, Start: 0, End: 9, Rate: 1}})
		}, false},
		{"Edit that fails", func(r *router.Router) { r.Edit(api.Directive{Op: api.OpAdd, Kind: api.KindContact}) }, true},
		{"Edit that changes", func(r *router.Router) {
			r.Edit(api.Directive{Op: api.OpChange, Kind: api.KindContact, C: api.Contact{ID: 1, Rate: 1}})
		}, true},
		{"Advance to 10", func(r *router.Router) { r.Advance(10) }, true},
		{"Advance to 11", func(r *router.Router) { r.Advance(11) }, false},
		{"Advance that fails", func(r *router.Router) { r.Advance(1 << 40) }, true},
		{"Book", func(r *router.Router) { r.Book([]int{1, 2}, 2, 30) }, true},
		{"Release", func(r *router.Router) { r.Release([]int{1, 2}, 2, 0) }, true},
		{"State", func(r *router.Router) { r.State() }, true},
	} {
		r := loaded(t)
		r.List(1, 3, 8)
		stats(t, r, 0, 1)
		x.call(r)
		stats(t, r, 0, 1)
		r.List(1, 3, 1)
		if a, b := r.Stats(); x.kept && (a != 1 || b != 1) || !x.kept && (a != 0 || b != 2) {
			t.Error(x.name, a, b)
		}
	}
}

func TestRouteAsksTheCacheP24_3(t *testing.T) {
	r := loaded(t)
	for _, b := range []api.Bundle{{}, {From: 1, To: 3, Size: -1}, {From: 1, To: 3, Class: 3}, {From: 1, To: 300}, {From: 1, To: 3, Deadline: 1<<40 + 1}} {
		if got, code := r.Route(b); code != api.ErrArg || got.Arrive != 0 || len(got.Hops) != 0 {
			t.Error(b, got, code)
		}
	}
	stats(t, r, 0, 0)
	for i, x := range []struct {
		b    api.Bundle
		code api.Errno
	}{
		{api.Bundle{From: 1, To: 3, Size: 7, Deadline: 100}, api.OK}, {api.Bundle{From: 1, To: 3, Size: 7, Deadline: 21}, api.ErrNone}, {api.Bundle{From: 1, To: 3, Size: 31, Deadline: 100}, api.ErrNone},
		{api.Bundle{From: 1, To: 3, Size: 0, Deadline: 15}, api.OK},
	} {
		got, code := r.Route(x.b)
		if code != x.code || code != api.OK && (got.Arrive != 0 || len(got.Hops) != 0) {
			t.Error(x, got, code)
		}
		stats(t, r, i, 1)
	}
	if got, code := r.Route(api.Bundle{From: 3, To: 1, Deadline: 100}); code != api.ErrNone || got.Arrive != 0 {
		t.Error(got, code)
	}
	stats(t, r, 3, 2)
	if got, code := r.Route(api.Bundle{From: 3, To: 3, Deadline: 100}); code != api.OK || got.Arrive != 0 || len(got.Hops) != 0 {
		t.Error(got, code)
	}
	stats(t, r, 3, 3)
}

func TestListP24_3(t *testing.T) {
	r := loaded(t)
	for range 2 {
		for _, x := range [][3]int{{1, 3, 1}, {1, 2, 8}, {1, 1, 3}, {3, 1, 2}, {0, 1, 1}, {1, 256, 1}, {1, 2, 0}, {1, 2, 9}} {
			got, code := r.List(x[0], x[1], x[2])
			if want, wantCode := bundle.List(r.State().Plan, x[0], x[1], x[2]); code != wantCode || !order.Same(got, want) {
				t.Error(x, got, code)
			}
		}
	}
	stats(t, r, 4, 4)
}

func TestNothingIsSharedP24_4(t *testing.T) {
	r, ids := loaded(t), []int{1, 2, -7}
	r.Book(ids[:2], 1, 3)
	r.Release(ids[:2], 1, 1)
	if !slices.Equal(ids, []int{1, 2, -7}) {
		t.Error(ids)
	}
	before := r.State()
	s := r.State()
	for i := range s.Plan.Contacts[:cap(s.Plan.Contacts)] {
		s.Plan.Contacts[:cap(s.Plan.Contacts)][i].ID = -8
	}
	for i := range s.Plan.Ranges[:cap(s.Plan.Ranges)] {
		s.Plan.Ranges[:cap(s.Plan.Ranges)][i].From = -8
	}
	for i := range s.Booked[:cap(s.Booked)] {
		s.Booked[:cap(s.Booked)][i].ID = -8
	}
	l, _ := r.List(1, 3, 8)
	want, _ := bundle.List(before.Plan, 1, 3, 8)
	l[0].Hops[0].ID = -8
	route, _ := r.Route(api.Bundle{From: 1, To: 3, Deadline: 99})
	route.Hops[0].ID = -8
	if again, _ := r.List(1, 3, 8); !same(r.State(), before) || !order.Same(again, want) {
		t.Error(r.State(), again)
	}
}

// TestSeveralAtOnceP24_4 has goroutines book and release, that each leaves all as it was, and others ask.
func TestSeveralAtOnceP24_4(t *testing.T) {
	r := loaded(t)
	before := r.State()
	var all sync.WaitGroup
	for i := range 12 {
		all.Go(func() {
			for range 50 {
				switch i % 4 {
				case 0, 1:
					if code := r.Book([]int{1, 2}, i%2, 2); code != api.OK {
						t.Error("Book", code)
					}
					if code := r.Release([]int{2, 1}, i%2, 2); code != api.OK {
						t.Error("Release", code)
					}
				case 2:
					if l, code := r.List(1, 3, 8); code != api.OK || len(l) != 1 {
						t.Error("List", l, code)
					}
					r.Edit(api.Directive{Op: api.OpChange, Kind: api.KindContact, C: api.Contact{ID: 9, Rate: 3}})
					r.Load("d contact 1\nd contact 1\n")
				case 3:
					if _, code := r.Route(api.Bundle{From: 1, To: 2, Class: 2, Deadline: 99}); code != api.OK {
						t.Error("Route", code)
					}
					if s := r.State(); !state.Right(s) || len(s.Booked) == 1 {
						t.Error("a call is done as a whole", s)
					}
					r.Advance(0)
					r.Stats()
				}
			}
		})
	}
	all.Wait()
	if !same(r.State(), before) {
		t.Error(r.State())
	}
}

func TestAsIfThereWereNoCacheP24_5(t *testing.T) {
	d := &trial.Dice{Seed: 24}
	for range 40 {
		p := trial.Plan(d, 4, 14)
		r := router.New()
		lines, _ := text.Print(plan.List(p))
		r.Load(lines)
		r.Advance(p.Clock)
		for range 120 {
			s := r.State()
			c := api.Contact{ID: 1 + d.Throw(20), From: 1 + d.Throw(2), To: 3 + d.Throw(2), Start: s.Plan.Clock + d.Throw(9), End: s.Plan.Clock + 9 + d.Throw(9), Rate: 1 + d.Throw(3)}
			ids := []int{1 + d.Throw(20), 21 + d.Throw(20)}[:1+d.Throw(2)]
			if len(s.Plan.Contacts) > 0 && d.Throw(2) == 0 {
				ids = []int{s.Plan.Contacts[d.Throw(len(s.Plan.Contacts))].ID}
			}
			switch d.Throw(12) {
			case 0:
				r.Edit(api.Directive{Op: api.OpAdd, Kind: api.KindContact, C: c})
			case 1:
				r.Edit(api.Directive{Op: api.OpDelete, Kind: api.KindContact, C: api.Contact{ID: ids[0]}})
			case 2:
				r.Load("a range 1 4 " + lines)
				r.Edit(api.Directive{Op: api.OpChange, Kind: api.KindContact, C: api.Contact{ID: ids[0], Rate: c.Rate}})
			case 3:
				r.Advance(s.Plan.Clock + d.Throw(3))
			case 4, 5, 6:
				r.Book(ids, d.Throw(3), d.Throw(9))
			case 7:
				r.Release(ids, d.Throw(3), d.Throw(3))
			}
			s = r.State()
			if !state.Right(s) {
				t.Fatal(s)
			}
			b := api.Bundle{From: 1 + d.Throw(4), To: 1 + d.Throw(4), Size: d.Throw(6), Class: d.Throw(3), Deadline: s.Plan.Clock + d.Throw(30)}
			got, code := r.Route(b)
			if want, wantCode := bundle.Route(s.Plan, s.Booked, b); code != wantCode || !path.Same(got, want) {
				t.Fatal(s, b, got, code, want)
			}
			from, to, k := 1+d.Throw(4), 1+d.Throw(4), 1+d.Throw(8)
			list, code := r.List(from, to, k)
			if want, wantCode := bundle.List(s.Plan, from, to, k); code != wantCode || !order.Same(list, want) {
				t.Fatal(s, from, to, k, list, want)
			}
		}
		if byKept, made := r.Stats(); byKept == 0 || made < 5 {
			t.Error("too little was kept, or made:", byKept, made)
		}
	}
}
