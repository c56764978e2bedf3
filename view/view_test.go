package view_test

import (
	"slices"
	"testing"

	"felucca/api"
	"felucca/hop"
	"felucca/ledger"
	"felucca/plan"
	"felucca/view"
)

func contact(id, from, to, start, end, rate int) api.Contact {
	return api.Contact{ID: id, From: from, To: to, Start: start, End: end, Rate: rate}
}

// some is a right plan, whose contacts 8 and 9 have no range.
func some() api.Plan {
	return api.Plan{
		Contacts: []api.Contact{contact(5, 1, 2, 10, 20, 3), contact(3, 1, 2, 20, 25, 7), contact(9, 1, 3, 4, 6, 2), contact(1, 2, 1, 0, 100, 3), contact(8, 2, 1, 100, 101, 1)},
		Ranges:   []api.Range{{From: 1, To: 2, Start: 0, End: 25, Owlt: 4}, {From: 1, To: 3, Start: 5, End: 6, Owlt: 2}, {From: 2, To: 1, Start: 0, End: 100}},
	}
}

// booked is a right ledger.
func booked() []api.Booked {
	return []api.Booked{{ID: 1, Used: [3]int{0, 300, 0}}, {ID: 5, Used: [3]int{1, 10, 7}}}
}

func TestEdgeP11_1(t *testing.T) {
	five := contact(5, 1, 2, 10, 20, 3)
	for _, x := range []struct {
		l     []api.Booked
		c     api.Contact
		class int
		want  api.Edge
	}{
		{nil, five, 0, api.Edge{ID: 5, From: 1, To: 2, Open: 10, End: 20, Rate: 3, Owlt: 4, Room: 30}},
		{booked(), five, 0, api.Edge{ID: 5, From: 1, To: 2, Open: 16, End: 20, Rate: 3, Owlt: 4, Room: 12}},
		{booked(), five, 1, api.Edge{ID: 5, From: 1, To: 2, Open: 16, End: 20, Rate: 3, Owlt: 4, Room: 13}},
		{booked(), five, 2, api.Edge{ID: 5, From: 1, To: 2, Open: 13, End: 20, Rate: 3, Owlt: 4, Room: 23}},
		{[]api.Booked{{ID: 5, Used: [3]int{10, 0, 0}}}, five, 0, api.Edge{ID: 5, From: 1, To: 2, Open: 14, End: 20, Rate: 3, Owlt: 4, Room: 20}},
		{[]api.Booked{{ID: 5, Used: [3]int{99, 0, 0}}}, five, 0, api.Edge{ID: 5, From: 1, To: 2, Open: 43, End: 20, Rate: 3, Owlt: 4, Room: 0}},
		{booked(), contact(1, 2, 1, 0, 100, 3), 0, api.Edge{ID: 1, From: 2, To: 1, Open: 100, End: 100, Rate: 3, Owlt: 0, Room: 0}},
		{booked(), contact(77, 2, 1, 5, 6, 9), 0, api.Edge{ID: 77, From: 2, To: 1, Open: 5, End: 6, Rate: 9, Owlt: 0, Room: 9}},
		{[]api.Booked{{ID: 5, Used: [3]int{0, 1 << 62, 1 << 62}}}, contact(5, 1, 2, 10, 20, 1), 0, api.Edge{ID: 5, From: 1, To: 2, Open: 1 << 40, End: 20, Rate: 1, Owlt: 4, Room: 0}},
		{[]api.Booked{{ID: 5, Used: [3]int{1<<40 - 10, 0, 0}}}, contact(5, 1, 2, 10, 20, 1), 0, api.Edge{ID: 5, From: 1, To: 2, Open: 1 << 40, End: 20, Rate: 1, Owlt: 4, Room: 0}},
		{[]api.Booked{{ID: 5, Used: [3]int{1<<40 - 11, 0, 0}}}, contact(5, 1, 2, 10, 20, 1), 0, api.Edge{ID: 5, From: 1, To: 2, Open: 1<<40 - 1, End: 20, Rate: 1, Owlt: 4, Room: 0}},
	} {
		if e, ok := view.Edge(some(), x.l, x.c, x.class); e != x.want || !ok {
			t.Error(x, e, ok)
		}
	}
	for _, c := range []api.Contact{
		contact(9, 1, 3, 4, 6, 2), contact(9, 1, 3, 5, 7, 2), contact(9, 3, 1, 5, 6, 2), contact(5, 1, 2, 10, 26, 3),
		{}, contact(0, 1, 2, 10, 20, 3), contact(5, 1, 2, 10, 10, 3), contact(5, 1, 2, 10, 20, 0), contact(5, 1, 2, -1, 20, 3), contact(1048577, 1, 2, 10, 20, 3),
	} {
		if e, ok := view.Edge(some(), booked(), c, 1); e != (api.Edge{}) || ok {
			t.Error(c, e, ok)
		}
	}
}

func TestAllP11_2(t *testing.T) {
	for class := range 3 {
		var want []api.Edge
		for _, id := range []int{1, 3, 5} {
			for _, c := range some().Contacts {
				if c.ID == id {
					e, _ := view.Edge(some(), booked(), c, class)
					want = append(want, e)
				}
			}
		}
		if got := view.All(some(), booked(), class); !slices.Equal(got, want) {
			t.Error(class, got)
		}
	}
	want := []api.Edge{
		{ID: 1, From: 2, To: 1, Open: 0, End: 100, Rate: 3, Owlt: 0, Room: 300}, {ID: 3, From: 1, To: 2, Open: 20, End: 25, Rate: 7, Owlt: 4, Room: 35},
		{ID: 5, From: 1, To: 2, Open: 10, End: 20, Rate: 3, Owlt: 4, Room: 30},
	}
	if got := view.Bare(some()); !slices.Equal(got, want) {
		t.Error(got)
	}
	if len(view.Bare(api.Plan{})) != 0 || len(view.All(api.Plan{Contacts: some().Contacts}, nil, 0)) != 0 {
		t.Error("without ranges there are no edges")
	}
}

// odd are any edges.
func odd() []api.Edge {
	return []api.Edge{{ID: 7, From: 2, Rate: 1}, {ID: -3, From: 2, To: -5}, {ID: 7, From: 2, Rate: 2}, {}, {ID: 1, From: 9, To: 2}, {From: -1, Room: api.MinInt}}
}

func TestFindP11_3(t *testing.T) {
	for id, place := range map[int]int{7: 0, -3: 1, 0: 3, 1: 4} {
		if e, ok := view.Find(odd(), id); e != odd()[place] || !ok {
			t.Error(id, e, ok)
		}
	}
	for _, id := range []int{2, 8, api.MinInt, api.MaxInt} {
		if e, ok := view.Find(odd(), id); e != (api.Edge{}) || ok {
			t.Error(id, e, ok)
		}
	}
	if _, ok := view.Find(nil, 0); ok {
		t.Error("none")
	}
}

func TestFromP11_3(t *testing.T) {
	l := odd()
	for node, want := range map[int][]api.Edge{2: l[:3], 0: l[3:4], 9: l[4:5], -1: l[5:], 1: nil, api.MaxInt: nil} {
		if got := view.From(odd(), node); !slices.Equal(got, want) {
			t.Error(node, got)
		}
	}
}

func TestSameP11_3(t *testing.T) {
	if !view.Same(nil, []api.Edge{}) || !view.Same(odd(), odd()) {
		t.Error("the same")
	}
	if view.Same(odd(), odd()[:5]) || view.Same(nil, odd()) {
		t.Error("one is longer")
	}
	for i := range odd() {
		for _, set := range []func(e *api.Edge){
			func(e *api.Edge) { e.ID++ }, func(e *api.Edge) { e.From++ }, func(e *api.Edge) { e.To++ }, func(e *api.Edge) { e.Open++ },
			func(e *api.Edge) { e.End++ }, func(e *api.Edge) { e.Rate++ }, func(e *api.Edge) { e.Owlt++ }, func(e *api.Edge) { e.Room++ },
		} {
			l := odd()
			if set(&l[i]); view.Same(l, odd()) {
				t.Error(l[i])
			}
		}
	}
}

func TestNothingIsSharedP11_4(t *testing.T) {
	l := append(odd(), api.Edge{ID: 99})
	given := l[:len(odd())]
	got := view.From(given, 2)
	for i := range got[:cap(got)] {
		got[:cap(got)][i] = api.Edge{ID: -99}
	}
	if !slices.Equal(l, append(odd(), api.Edge{ID: 99})) {
		t.Error("From", l)
	}
	p, b := some(), booked()
	view.All(p, b, 1)
	view.Bare(p)
	if !plan.Same(p, some()) || !ledger.Same(b, booked()) {
		t.Error("All", p, b)
	}
}

func TestWhatIsBookedClosesP11_5(t *testing.T) {
	var l []api.Booked
	p := some()
	for i := range 200 {
		next, ok := ledger.Book(l, p.Contacts[i*7%5], i*5%3, i%6)
		for class := range 3 {
			was, is := view.All(p, l, class), view.All(p, next, class)
			for j, e := range is {
				if !hop.Right(e) || e.Open < was[j].Open || e.Room > was[j].Room || j > 0 && e.ID <= is[j-1].ID {
					t.Fatal(i, class, e, was[j])
				}
				for at := range 30 {
					for _, size := range []int{0, 1, 5} {
						_, there, passes := hop.Pass(e, at, size)
						_, thereWas, passed := hop.Pass(was[j], at, size)
						if passes && (!passed || there < thereWas) {
							t.Fatal("what is booked opens nothing", e, was[j])
						}
					}
				}
			}
		}
		if ok {
			l = next
		}
	}
	far := []api.Booked{{ID: 1, Used: [3]int{1 << 62, 1 << 62, 1 << 62}}, {ID: 5, Used: [3]int{1 << 62, 1, 0}}}
	for class := range 3 {
		for _, e := range view.All(p, far, class) {
			if !hop.Right(e) {
				t.Error(e)
			}
		}
	}
}
