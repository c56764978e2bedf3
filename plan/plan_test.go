package plan_test

import (
	"slices"
	"testing"

	"felucca/api"
	"felucca/plan"
)

func contact(id, from, to, start, end, rate int) api.Contact {
	return api.Contact{ID: id, From: from, To: to, Start: start, End: end, Rate: rate}
}

func span(from, to, start, end, owlt int) api.Range {
	return api.Range{From: from, To: to, Start: start, End: end, Owlt: owlt}
}

func onContact(op int, c api.Contact) api.Directive {
	return api.Directive{Op: op, Kind: api.KindContact, C: c}
}

func onRange(op int, r api.Range) api.Directive {
	return api.Directive{Op: op, Kind: api.KindRange, R: r}
}

// some is a right plan at 5.
func some() api.Plan {
	return api.Plan{
		Contacts: []api.Contact{contact(5, 1, 2, 0, 9, 1), contact(3, 1, 2, 9, 12, 7), contact(9, 1, 3, 4, 6, 2), contact(1, 2, 1, 0, 100, 3)},
		Ranges:   []api.Range{span(1, 2, 0, 20, 4), span(1, 3, 0, 6, 2), span(2, 1, 0, 100, 0)},
		Clock:    5, Version: 40,
	}
}

// same holds fields one by one, without the layer's own Same.
func same(a, b api.Plan) bool {
	return slices.Equal(a.Contacts, b.Contacts) && slices.Equal(a.Ranges, b.Ranges) && a.Clock == b.Clock && a.Version == b.Version
}

// tell hands f a plan whose tables have spare room, and holds what it answers to be new memory, and the plan to be as it was.
func tell(t *testing.T, p api.Plan, f func(p api.Plan) api.Plan) api.Plan {
	t.Helper()
	given := p
	given.Contacts = append(slices.Clone(p.Contacts), contact(-7, 0, 0, 0, 0, 0))
	given.Ranges = append(slices.Clone(p.Ranges), span(-7, 0, 0, 0, 0))
	wasContacts, wasRanges := slices.Clone(given.Contacts), slices.Clone(given.Ranges)
	handed := given
	handed.Contacts, handed.Ranges = given.Contacts[:len(p.Contacts)], given.Ranges[:len(p.Ranges)]
	got := f(handed)
	answer := got
	answer.Contacts, answer.Ranges = slices.Clone(got.Contacts), slices.Clone(got.Ranges)
	for i := range got.Contacts[:cap(got.Contacts)] {
		got.Contacts[:cap(got.Contacts)][i].ID = -8
	}
	for i := range got.Ranges[:cap(got.Ranges)] {
		got.Ranges[:cap(got.Ranges)][i].From = -8
	}
	if !slices.Equal(given.Contacts, wasContacts) || !slices.Equal(given.Ranges, wasRanges) {
		t.Error("P8.5: what was handed in changed")
	}
	return answer
}

func TestNewAndCopyP8_1(t *testing.T) {
	if p := plan.New(); !same(p, api.Plan{}) || !plan.Right(p) {
		t.Error(p)
	}
	for _, p := range []api.Plan{{}, some(), {Clock: -1, Version: api.MinInt, Contacts: []api.Contact{{}}, Ranges: []api.Range{{}, {}}}} {
		if got := tell(t, p, plan.Copy); !same(got, p) {
			t.Error(got)
		}
	}
}

func TestRightP8_1(t *testing.T) {
	for _, set := range []func(p *api.Plan){
		func(p *api.Plan) {}, func(p *api.Plan) { p.Clock = 0 }, func(p *api.Plan) { p.Version = 0 }, func(p *api.Plan) { p.Version = 1 << 40 },
		func(p *api.Plan) { *p = api.Plan{Clock: 1<<31 - 1} },
	} {
		p := some()
		if set(&p); !plan.Right(p) {
			t.Error("right:", p)
		}
	}
	for _, set := range []func(p *api.Plan){
		func(p *api.Plan) { p.Clock = -1 }, func(p *api.Plan) { *p = api.Plan{Clock: 1 << 31} }, func(p *api.Plan) { p.Version = -1 }, func(p *api.Plan) { p.Version = 1<<40 + 1 },
		func(p *api.Plan) { p.Clock = 6 }, func(p *api.Plan) { p.Clock, p.Ranges = 6, nil }, func(p *api.Plan) { p.Clock, p.Contacts = 6, nil },
		func(p *api.Plan) { p.Contacts[0].Rate = 0 }, func(p *api.Plan) { p.Contacts[0].ID = 3 }, func(p *api.Plan) { p.Ranges[0].Owlt = -1 },
		func(p *api.Plan) { p.Ranges[0], p.Ranges[1] = p.Ranges[1], p.Ranges[0] }, func(p *api.Plan) { p.Contacts[1].Start = 8 },
	} {
		p := some()
		if set(&p); plan.Right(p) {
			t.Error("not right:", p)
		}
	}
}

func TestSameP8_1(t *testing.T) {
	if !plan.Same(some(), some()) || !plan.Same(api.Plan{Contacts: []api.Contact{}, Ranges: []api.Range{}}, plan.New()) {
		t.Error("the same")
	}
	for _, set := range []func(p *api.Plan){
		func(p *api.Plan) { p.Clock++ }, func(p *api.Plan) { p.Version++ }, func(p *api.Plan) { p.Contacts = p.Contacts[:3] }, func(p *api.Plan) { p.Ranges = nil },
		func(p *api.Plan) { p.Contacts[3].Rate++ }, func(p *api.Plan) { p.Ranges[2].Owlt++ },
	} {
		p := some()
		if set(&p); plan.Same(p, some()) || plan.Same(some(), p) {
			t.Error(p)
		}
	}
}

// applied holds Apply to what it is to tell.
func applied(t *testing.T, p api.Plan, d api.Directive, want api.Plan, code api.Errno) {
	t.Helper()
	got := tell(t, p, func(p api.Plan) api.Plan {
		got, e := plan.Apply(p, d)
		if e != code {
			t.Errorf("%+v: %d for %d", d, e, code)
		}
		return got
	})
	if !same(got, want) {
		t.Errorf("%+v: %+v", d, got)
	}
	if !plan.Right(got) {
		t.Errorf("P8.6: %+v: what is right stays right", d)
	}
}

func TestApplyP8_2(t *testing.T) {
	for _, x := range []struct {
		d   api.Directive
		set func(p *api.Plan)
	}{
		{onContact(api.OpAdd, contact(2, 1, 2, 12, 13, 4)), func(p *api.Plan) { p.Contacts = slices.Insert(p.Contacts, 2, contact(2, 1, 2, 12, 13, 4)) }},
		{onContact(api.OpAdd, contact(2, 2, 3, 0, 6, 4)), func(p *api.Plan) { p.Contacts = append(p.Contacts, contact(2, 2, 3, 0, 6, 4)) }},
		{onContact(api.OpDelete, api.Contact{ID: 9}), func(p *api.Plan) { p.Contacts = slices.Delete(p.Contacts, 2, 3) }},
		{onContact(api.OpChange, api.Contact{ID: 3, Rate: 8}), func(p *api.Plan) { p.Contacts[1].Rate = 8 }},
		{onContact(api.OpChange, api.Contact{ID: 3, Rate: 7}), func(p *api.Plan) {}},
		{onRange(api.OpAdd, span(1, 2, 20, 30, 4)), func(p *api.Plan) { p.Ranges = slices.Insert(p.Ranges, 1, span(1, 2, 20, 30, 4)) }},
		{onRange(api.OpAdd, span(3, 1, 0, 6, 0)), func(p *api.Plan) { p.Ranges = append(p.Ranges, span(3, 1, 0, 6, 0)) }},
		{onRange(api.OpDelete, api.Range{From: 1, To: 3}), func(p *api.Plan) { p.Ranges = slices.Delete(p.Ranges, 1, 2) }},
		{onRange(api.OpChange, api.Range{From: 2, To: 1, Owlt: 77}), func(p *api.Plan) { p.Ranges[2].Owlt = 77 }},
	} {
		for _, version := range []int{0, 40, 1<<40 - 1, 1 << 40} {
			p, want := some(), some()
			p.Version = version
			x.set(&want)
			want.Version = min(version+1, 1<<40)
			applied(t, p, x.d, want, api.OK)
		}
	}
}

// full is a right plan that has no room for rows.
func full() api.Plan {
	var p api.Plan
	for i := range api.MaxRows {
		p.Contacts = append(p.Contacts, contact(i+1, 1, 2, i, i+1, 1))
		p.Ranges = append(p.Ranges, span(1, 2, i, i+1, 1))
	}
	return p
}

func TestApplyErrorsP8_2(t *testing.T) {
	for _, x := range []struct {
		d    api.Directive
		code api.Errno
	}{
		{api.Directive{}, api.ErrArg}, {onContact(4, contact(2, 1, 2, 12, 13, 4)), api.ErrArg}, {onContact(api.OpAdd, contact(2, 1, 1, 0, 1, 4)), api.ErrArg},
		{onContact(api.OpDelete, api.Contact{ID: 5, Rate: 1}), api.ErrArg}, {onContact(api.OpChange, api.Contact{ID: 77}), api.ErrArg}, {onRange(api.OpAdd, span(1, 2, 5, 5, 4)), api.ErrArg},
		{onRange(api.OpDelete, api.Range{From: 1, To: 3, End: 6}), api.ErrArg},
		{onContact(api.OpAdd, contact(5, 1, 2, 0, 5, 4)), api.ErrPast}, {onContact(api.OpAdd, contact(2, 4, 5, 0, 1, 4)), api.ErrPast}, {onRange(api.OpAdd, span(1, 2, 0, 5, 4)), api.ErrPast},
		{onRange(api.OpAdd, span(7, 8, 4, 5, 4)), api.ErrPast},
		{onContact(api.OpAdd, contact(5, 1, 2, 0, 9, 1)), api.ErrTwice}, {onContact(api.OpAdd, contact(2, 1, 2, 0, 6, 1)), api.ErrOverlap},
		{onContact(api.OpDelete, api.Contact{ID: 2}), api.ErrNone}, {onContact(api.OpChange, api.Contact{ID: 2, Rate: 1}), api.ErrNone},
		{onRange(api.OpAdd, span(1, 2, 0, 6, 4)), api.ErrOverlap}, {onRange(api.OpDelete, api.Range{From: 1, To: 2, Start: 1}), api.ErrNone},
		{onRange(api.OpChange, api.Range{From: 3, To: 2, Owlt: 1}), api.ErrNone},
	} {
		applied(t, some(), x.d, some(), x.code)
	}
	applied(t, full(), onContact(api.OpAdd, contact(5000, 1, 2, 5000, 5001, 1)), full(), api.ErrFull)
	applied(t, full(), onRange(api.OpAdd, span(1, 2, 5000, 5001, 1)), full(), api.ErrFull)
}

func TestAdvanceP8_3(t *testing.T) {
	for _, x := range []struct {
		now       int
		gone      []int
		contacts  []int
		ranges    []int
		unchanged bool
	}{
		{5, nil, []int{5, 3, 9, 1}, []int{20, 6, 100}, true}, {6, []int{9}, []int{5, 3, 1}, []int{20, 100}, false}, {9, []int{5, 9}, []int{3, 1}, []int{20, 100}, false},
		{19, []int{3, 5, 9}, []int{1}, []int{20, 100}, false}, {20, []int{3, 5, 9}, []int{1}, []int{100}, false}, {99, []int{3, 5, 9}, []int{1}, []int{100}, false},
		{100, []int{1, 3, 5, 9}, nil, nil, false}, {2147483647, []int{1, 3, 5, 9}, nil, nil, false},
	} {
		for _, version := range []int{0, 40, 1<<40 - 1, 1 << 40} {
			p := some()
			p.Version = version
			want := p
			want.Contacts = slices.DeleteFunc(some().Contacts, func(c api.Contact) bool { return !slices.Contains(x.contacts, c.ID) })
			want.Ranges = slices.DeleteFunc(some().Ranges, func(r api.Range) bool { return !slices.Contains(x.ranges, r.End) })
			want.Clock = x.now
			if !x.unchanged {
				want.Version = min(version+1, 1<<40)
			}
			got := tell(t, p, func(p api.Plan) api.Plan {
				got, gone, e := plan.Advance(p, x.now)
				if e != api.OK || !slices.Equal(gone, x.gone) {
					t.Error(x.now, gone, e)
				}
				return got
			})
			if !same(got, want) || !plan.Right(got) {
				t.Errorf("%d: %+v", x.now, got)
			}
		}
	}
	for _, now := range []int{4, 0, -1, api.MinInt, 2147483648, api.MaxInt} {
		got := tell(t, some(), func(p api.Plan) api.Plan {
			got, gone, e := plan.Advance(p, now)
			if e != api.ErrPast || len(gone) != 0 {
				t.Error(now, gone, e)
			}
			return got
		})
		if !same(got, some()) {
			t.Error(now, got)
		}
	}
}

func TestAllP8_4(t *testing.T) {
	good := []api.Directive{
		onContact(api.OpDelete, api.Contact{ID: 5}), onContact(api.OpAdd, contact(5, 1, 2, 0, 6, 1)), onRange(api.OpChange, api.Range{From: 1, To: 2, Owlt: 9}), onContact(api.OpChange, api.Contact{ID: 5, Rate: 4}),
	}
	for n := range len(good) + 1 {
		want := some()
		for _, d := range good[:n] {
			want, _ = plan.Apply(want, d)
		}
		got := tell(t, some(), func(p api.Plan) api.Plan {
			got, i, e := plan.All(p, good[:n])
			if i != n || e != api.OK {
				t.Error(n, i, e)
			}
			return got
		})
		if !same(got, want) {
			t.Error(n, got)
		}
		for _, bad := range []struct {
			d    api.Directive
			code api.Errno
		}{{api.Directive{}, api.ErrArg}, {onContact(api.OpDelete, api.Contact{ID: 6}), api.ErrNone}, {onRange(api.OpAdd, span(1, 2, 0, 5, 1)), api.ErrPast}} {
			l := slices.Concat(good[:n], []api.Directive{bad.d}, good[n:], []api.Directive{{}})
			was := slices.Clone(l)
			got := tell(t, some(), func(p api.Plan) api.Plan {
				got, i, e := plan.All(p, l)
				if i != n || e != bad.code {
					t.Error(n, i, e)
				}
				return got
			})
			if !same(got, some()) || !slices.Equal(l, was) {
				t.Error(n, got)
			}
		}
	}
}

func TestListP8_4(t *testing.T) {
	p := some()
	var want []api.Directive
	for _, r := range p.Ranges {
		want = append(want, onRange(api.OpAdd, r))
	}
	for _, c := range p.Contacts {
		want = append(want, onContact(api.OpAdd, c))
	}
	if l := plan.List(p); !slices.Equal(l, want) || !same(p, some()) {
		t.Error(l)
	}
	if l := plan.List(plan.New()); len(l) != 0 {
		t.Error(l)
	}
}

func TestAnswersShareNothingP8_5(t *testing.T) {
	p := some()
	next, _ := plan.Apply(p, onContact(api.OpDelete, api.Contact{ID: 5}))
	next.Ranges[0].Owlt = 99
	if !same(p, some()) {
		t.Error("the other table too is new memory")
	}
	next, _, _ = plan.All(p, nil)
	next.Contacts[0].Rate, next.Ranges[0].Owlt = 99, 99
	if !same(p, some()) {
		t.Error("without directives too it is new memory")
	}
	next, gone, _ := plan.Advance(p, 9)
	for i := range gone[:cap(gone)] {
		gone[:cap(gone)][i] = -9
	}
	if !plan.Right(next) || !same(p, some()) {
		t.Error("IDs that went")
	}
}

func TestListedMakesTheSameP8_6(t *testing.T) {
	for _, p := range []api.Plan{plan.New(), some(), full()} {
		l := plan.List(p)
		start := plan.New()
		start.Clock = p.Clock
		again, n, e := plan.All(start, l)
		if e != api.OK || n != len(l) || !slices.Equal(again.Contacts, p.Contacts) || !slices.Equal(again.Ranges, p.Ranges) || again.Version != len(l) {
			t.Error(n, e, again.Version)
		}
	}
}

func TestStaysRightP8_6(t *testing.T) {
	p, done := plan.New(), 0
	for i := range 900 {
		c := contact(1+i*7%30, 1+i%3, 1+i*5%4, i/9, i/9+1+i%40, 1+i%5)
		d := onContact(api.OpAdd, c)
		switch i % 8 {
		case 3:
			d = onContact(api.OpDelete, api.Contact{ID: c.ID})
		case 4:
			d = onContact(api.OpChange, api.Contact{ID: c.ID, Rate: c.Rate})
		case 5:
			d = onRange(api.OpAdd, span(c.From, c.To, c.Start, c.End, c.Rate))
		case 6:
			d = onRange(api.OpDelete, api.Range{From: c.From, To: c.To, Start: c.Start})
		}
		next, e := plan.Apply(p, d)
		if i%8 == 7 {
			next, _, e = plan.Advance(p, i/9-2+i%3)
		}
		if !plan.Right(next) || e != api.OK && !plan.Same(next, p) {
			t.Fatal(i, e, next)
		}
		if e == api.OK {
			done++
		}
		p = next
	}
	if done < 100 {
		t.Error("too little was done:", done)
	}
}
