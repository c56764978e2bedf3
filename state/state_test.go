package state_test

import (
	"slices"
	"testing"

	"felucca/api"
	"felucca/ledger"
	"felucca/plan"
	"felucca/state"
	"felucca/text"
	"felucca/trial"
)

func contact(id, from, to, start, end, rate int) api.Contact {
	return api.Contact{ID: id, From: from, To: to, Start: start, End: end, Rate: rate}
}

// some is a right state at 5: contact 5 has the volume 30, 3 has 21, 9 has 6, 1 has 300.
func some() api.State {
	return api.State{
		Plan: api.Plan{
			Contacts: []api.Contact{contact(5, 1, 2, 0, 10, 3), contact(3, 1, 2, 10, 13, 7), contact(9, 1, 3, 4, 7, 2), contact(1, 2, 1, 0, 100, 3)},
			Ranges:   []api.Range{{From: 1, To: 2, Start: 0, End: 20, Owlt: 4}, {From: 1, To: 3, Start: 0, End: 7, Owlt: 2}},
			Clock:    5, Version: 40,
		},
		Booked: []api.Booked{{ID: 3, Used: [3]int{0, 4, 0}}, {ID: 5, Used: [3]int{1, 0, 30}}},
	}
}

// same holds fields one by one, without the program's own Same.
func same(a, b api.State) bool {
	return slices.Equal(a.Plan.Contacts, b.Plan.Contacts) && slices.Equal(a.Plan.Ranges, b.Plan.Ranges) && a.Plan.Clock == b.Plan.Clock && a.Plan.Version == b.Plan.Version &&
		slices.Equal(a.Booked, b.Booked)
}

// tell hands f a state whose lists have spare room, and holds what it answers to be new memory, and right, and the state to be as it was.
func tell(t *testing.T, s api.State, f func(s api.State) api.State) api.State {
	t.Helper()
	spare := func() api.State {
		l := api.State{Plan: plan.Copy(s.Plan), Booked: slices.Clone(s.Booked)}
		l.Plan.Contacts = append(l.Plan.Contacts, contact(-7, 0, 0, 0, 0, 0))
		l.Plan.Ranges = append(l.Plan.Ranges, api.Range{From: -7})
		l.Booked = append(l.Booked, api.Booked{ID: -7})
		return l
	}
	given := spare()
	handed := given
	handed.Plan.Contacts, handed.Plan.Ranges, handed.Booked = given.Plan.Contacts[:len(s.Plan.Contacts)], given.Plan.Ranges[:len(s.Plan.Ranges)], given.Booked[:len(s.Booked)]
	got := f(handed)
	answer := api.State{Plan: plan.Copy(got.Plan), Booked: slices.Clone(got.Booked)}
	for i := range got.Plan.Contacts[:cap(got.Plan.Contacts)] {
		got.Plan.Contacts[:cap(got.Plan.Contacts)][i].ID = -8
	}
	for i := range got.Plan.Ranges[:cap(got.Plan.Ranges)] {
		got.Plan.Ranges[:cap(got.Plan.Ranges)][i].From = -8
	}
	for i := range got.Booked[:cap(got.Booked)] {
		got.Booked[:cap(got.Booked)][i].ID = -8
	}
	if !same(given, spare()) {
		t.Error("P21.6: what was handed in changed")
	}
	if !state.Right(answer) {
		t.Error("P21.7: what is right stays right")
	}
	return answer
}

// expect holds what f answers, and its error, to what they are to be.
func expect(t *testing.T, s api.State, f func(s api.State) (api.State, api.Errno), want api.State, code api.Errno) {
	t.Helper()
	got := tell(t, s, func(s api.State) api.State {
		got, e := f(s)
		if e != code {
			t.Error(e, "for", code)
		}
		return got
	})
	if !same(got, want) {
		t.Errorf("%+v for %+v", got, want)
	}
}

// but is some, changed.
func but(set func(s *api.State)) api.State {
	s := some()
	set(&s)
	return s
}

func TestNewP21_1(t *testing.T) {
	if s := state.New(); !same(s, api.State{}) || !state.Right(s) {
		t.Error(s)
	}
}

func TestRightP21_1(t *testing.T) {
	for _, s := range []api.State{some(), {}, but(func(s *api.State) { s.Booked[0].Used = [3]int{21, 21, 21} }), but(func(s *api.State) { s.Booked = nil })} {
		if !state.Right(s) {
			t.Error("right:", s)
		}
	}
	for _, set := range []func(s *api.State){
		func(s *api.State) { s.Plan.Clock = 7 }, func(s *api.State) { s.Plan.Contacts[0].ID = 3 }, func(s *api.State) { s.Booked[0].ID = 5 }, func(s *api.State) { s.Booked[0].Used[1] = 0 },
		func(s *api.State) { s.Booked[0].ID = 2 }, func(s *api.State) { s.Booked = append(s.Booked, api.Booked{ID: 10, Used: [3]int{1, 0, 0}}) }, func(s *api.State) { s.Booked[1].Used[2] = 31 },
		func(s *api.State) { s.Booked[1].Used[0] = 31 }, func(s *api.State) { s.Booked[0].Used[1] = 22 }, func(s *api.State) { s.Plan.Contacts[0].Rate = 2 }, func(s *api.State) { s.Booked[0].Used[1] = -1 },
	} {
		if s := but(set); state.Right(s) {
			t.Error("not right:", s)
		}
	}
}

func TestSameP21_1(t *testing.T) {
	if !state.Same(some(), some()) || !state.Same(api.State{Booked: []api.Booked{}}, state.New()) {
		t.Error("the same")
	}
	for _, set := range []func(s *api.State){
		func(s *api.State) { s.Plan.Clock++ }, func(s *api.State) { s.Plan.Version++ }, func(s *api.State) { s.Plan.Contacts[3].Rate++ }, func(s *api.State) { s.Plan.Ranges = nil },
		func(s *api.State) { s.Booked = s.Booked[:1] }, func(s *api.State) { s.Booked[1].Used[0]++ }, func(s *api.State) { s.Booked[1].ID++ },
	} {
		if s := but(set); state.Same(s, some()) || state.Same(some(), s) {
			t.Error(s)
		}
	}
}

func onContact(op int, c api.Contact) api.Directive {
	return api.Directive{Op: op, Kind: api.KindContact, C: c}
}

func onRange(op int, r api.Range) api.Directive {
	return api.Directive{Op: op, Kind: api.KindRange, R: r}
}

func TestEditP21_2(t *testing.T) {
	for _, x := range []struct {
		d   api.Directive
		set func(s *api.State)
	}{
		{onContact(api.OpAdd, contact(2, 2, 3, 0, 6, 4)), func(s *api.State) { s.Plan.Contacts = append(s.Plan.Contacts, contact(2, 2, 3, 0, 6, 4)) }},
		{onContact(api.OpDelete, api.Contact{ID: 5}), func(s *api.State) { s.Plan.Contacts, s.Booked = s.Plan.Contacts[1:], s.Booked[:1] }},
		{onContact(api.OpDelete, api.Contact{ID: 9}), func(s *api.State) { s.Plan.Contacts = slices.Delete(s.Plan.Contacts, 2, 3) }},
		{onContact(api.OpChange, api.Contact{ID: 5, Rate: 4}), func(s *api.State) { s.Plan.Contacts[0].Rate = 4 }},
		{onContact(api.OpChange, api.Contact{ID: 5, Rate: 3}), func(s *api.State) {}},
		{onContact(api.OpChange, api.Contact{ID: 3, Rate: 2}), func(s *api.State) { s.Plan.Contacts[1].Rate = 2 }},
		{onContact(api.OpChange, api.Contact{ID: 1, Rate: 1}), func(s *api.State) { s.Plan.Contacts[3].Rate = 1 }},
		{onRange(api.OpChange, api.Range{From: 1, To: 2, Owlt: 9}), func(s *api.State) { s.Plan.Ranges[0].Owlt = 9 }},
		{onRange(api.OpDelete, api.Range{From: 1, To: 2}), func(s *api.State) { s.Plan.Ranges = s.Plan.Ranges[1:] }},
	} {
		want := but(x.set)
		want.Plan.Version++
		expect(t, some(), func(s api.State) (api.State, api.Errno) { return state.Edit(s, x.d) }, want, api.OK)
	}
	for _, x := range []struct {
		d    api.Directive
		code api.Errno
	}{
		{api.Directive{}, api.ErrArg}, {onContact(api.OpChange, api.Contact{ID: 5}), api.ErrArg}, {onContact(api.OpAdd, contact(2, 1, 2, 0, 5, 1)), api.ErrPast},
		{onContact(api.OpAdd, contact(5, 7, 8, 0, 9, 1)), api.ErrTwice}, {onContact(api.OpAdd, contact(2, 1, 2, 9, 11, 1)), api.ErrOverlap}, {onContact(api.OpDelete, api.Contact{ID: 2}), api.ErrNone},
		{onContact(api.OpChange, api.Contact{ID: 2, Rate: 1}), api.ErrNone}, {onRange(api.OpDelete, api.Range{From: 2, To: 1}), api.ErrNone},
		{onContact(api.OpChange, api.Contact{ID: 5, Rate: 2}), api.ErrRoom}, {onContact(api.OpChange, api.Contact{ID: 3, Rate: 1}), api.ErrRoom}, {onContact(api.OpChange, api.Contact{ID: 5, Rate: 1}), api.ErrRoom},
	} {
		expect(t, some(), func(s api.State) (api.State, api.Errno) { return state.Edit(s, x.d) }, some(), x.code)
	}
	full := but(func(s *api.State) { s.Booked = []api.Booked{{ID: 5, Used: [3]int{30, 30, 30}}} })
	want := but(func(s *api.State) { s.Booked = []api.Booked{{ID: 5, Used: [3]int{30, 30, 30}}} })
	want.Plan.Version++
	change := func(s api.State) (api.State, api.Errno) {
		return state.Edit(s, onContact(api.OpChange, api.Contact{ID: 5, Rate: 3}))
	}
	expect(t, full, change, want, api.OK)
	for class := range 3 {
		for _, n := range []int{20, 21} {
			s := but(func(s *api.State) { s.Booked[1].Used = [3]int{}; s.Booked[1].Used[class] = n })
			_, code := state.Edit(s, onContact(api.OpChange, api.Contact{ID: 5, Rate: 2}))
			if (code == api.ErrRoom) != (n == 21) || n == 20 && code != api.OK {
				t.Error("each class is held to the volume alone", class, n, code)
			}
		}
	}
}

func TestLoadP21_3(t *testing.T) {
	for _, x := range []struct {
		t    string
		want api.Fault
	}{
		{"", api.Fault{}}, {"# no\n\n", api.Fault{}}, {"a contact 2 2 3 0 6 4\n d contact 5\n", api.Fault{}}, {"c contact 5 9\nc contact 5 3\nd contact 3\na contact 3 1 2 10 13 7", api.Fault{}},
		{"d contact 5\nx\n", api.Fault{Line: 2, Code: api.ErrForm}}, {"d contact 77\n\nd contact 0\n", api.Fault{Line: 3, Code: api.ErrArg}},
		{"\nd contact 5\n#\n\nd contact 5\nd contact 77\n", api.Fault{Line: 5, Code: api.ErrNone}}, {"a contact 2 2 3 0 6 4\nc contact 5 2\n", api.Fault{Line: 2, Code: api.ErrRoom}},
		{"a contact 2 2 3 0 5 4\n", api.Fault{Line: 1, Code: api.ErrPast}}, {"#\n#\na range 1 2 19 99 4\n", api.Fault{Line: 3, Code: api.ErrOverlap}},
		{"a contact 9 5 6 0 9 4\n", api.Fault{Line: 1, Code: api.ErrTwice}},
	} {
		want := some()
		if x.want == (api.Fault{}) {
			l, _ := text.Parse(x.t)
			for _, d := range l {
				want, _ = state.Edit(want, d)
			}
		}
		got := tell(t, some(), func(s api.State) api.State {
			got, f := state.Load(s, x.t)
			if f != x.want {
				t.Errorf("%q: %+v", x.t, f)
			}
			return got
		})
		if !same(got, want) {
			t.Errorf("%q: %+v", x.t, got)
		}
	}
	s, _ := state.Load(state.New(), "a range 1 2 0 90 4\na contact 1 1 2 10 20 3\n")
	if s.Plan.Version != 2 || len(s.Plan.Contacts) != 1 || len(s.Plan.Ranges) != 1 || len(s.Booked) != 0 {
		t.Error(s)
	}
}

func TestAdvanceP21_4(t *testing.T) {
	for _, x := range []struct {
		now int
		set func(s *api.State)
	}{
		{5, func(s *api.State) { s.Plan.Version-- }}, {6, func(s *api.State) {}}, {7, func(s *api.State) {
			s.Plan.Contacts, s.Plan.Ranges = slices.Delete(s.Plan.Contacts, 2, 3), s.Plan.Ranges[:1]
		}},
		{10, func(s *api.State) {
			s.Plan.Contacts, s.Plan.Ranges, s.Booked = []api.Contact{s.Plan.Contacts[1], s.Plan.Contacts[3]}, s.Plan.Ranges[:1], s.Booked[:1]
		}},
		{13, func(s *api.State) {
			s.Plan.Contacts, s.Plan.Ranges, s.Booked = s.Plan.Contacts[3:], s.Plan.Ranges[:1], nil
		}},
		{2147483647, func(s *api.State) { s.Plan.Contacts, s.Plan.Ranges, s.Booked = nil, nil, nil }},
	} {
		want := but(x.set)
		want.Plan.Clock = x.now
		want.Plan.Version++
		expect(t, some(), func(s api.State) (api.State, api.Errno) { return state.Advance(s, x.now) }, want, api.OK)
	}
	for _, now := range []int{4, 0, -1, 2147483648, api.MaxInt, api.MinInt} {
		expect(t, some(), func(s api.State) (api.State, api.Errno) { return state.Advance(s, now) }, some(), api.ErrPast)
	}
}

type asked struct {
	ids         []int
	class, size int
	code        api.Errno
}

// errors are what is refused when booking, and when releasing.
func errors() []asked {
	return []asked{
		{nil, 0, 1, api.ErrArg}, {[]int{5, 3, 5}, 0, 0, api.ErrArg}, {[]int{77, 77}, 0, 0, api.ErrArg}, {[]int{5}, 3, 0, api.ErrArg}, {[]int{5}, -1, 0, api.ErrArg}, {[]int{77}, 3, 0, api.ErrArg},
		{[]int{5}, 0, -1, api.ErrArg}, {[]int{5}, 0, 1 << 40, api.ErrArg}, {[]int{77}, 0, api.MaxInt, api.ErrArg}, {[]int{5}, api.MinInt, api.MinInt, api.ErrArg}, {[]int{}, 9, 9, api.ErrArg},
		{[]int{77}, 0, 0, api.ErrNone}, {[]int{5, 0}, 0, 0, api.ErrNone}, {[]int{5, 2, 3}, 0, 1<<40 - 1, api.ErrNone}, {[]int{-5}, 0, 0, api.ErrNone}, {[]int{5}, 0, 1<<40 - 1, api.ErrRoom},
	}
}

func TestBookP21_5(t *testing.T) {
	for _, x := range []struct {
		asked
		set func(s *api.State)
	}{
		{asked{[]int{9}, 1, 6, api.OK}, func(s *api.State) { s.Booked = append(s.Booked, api.Booked{ID: 9, Used: [3]int{0, 6, 0}}) }},
		{asked{[]int{3, 1}, 2, 21, api.OK}, func(s *api.State) {
			s.Booked[0].Used[2] = 21
			s.Booked = slices.Insert(s.Booked, 0, api.Booked{ID: 1, Used: [3]int{0, 0, 21}})
		}},
		{asked{[]int{3}, 0, 17, api.OK}, func(s *api.State) { s.Booked[0].Used[0] = 17 }}, {asked{[]int{5, 3, 9, 1}, 0, 0, api.OK}, func(s *api.State) {}},
		{asked{[]int{9, 1}, 0, 7, api.ErrRoom}, func(s *api.State) {}}, {asked{[]int{1, 3}, 0, 18, api.ErrRoom}, func(s *api.State) {}}, {asked{[]int{5}, 1, 1, api.ErrRoom}, func(s *api.State) {}},
	} {
		expect(t, some(), func(s api.State) (api.State, api.Errno) { return state.Book(s, x.ids, x.class, x.size) }, but(x.set), x.code)
	}
	for _, x := range errors() {
		expect(t, some(), func(s api.State) (api.State, api.Errno) { return state.Book(s, x.ids, x.class, x.size) }, some(), x.code)
	}
}

func TestReleaseP21_5(t *testing.T) {
	for _, x := range []struct {
		asked
		set func(s *api.State)
	}{
		{asked{[]int{3}, 1, 3, api.OK}, func(s *api.State) { s.Booked[0].Used[1] = 1 }}, {asked{[]int{3}, 1, 4, api.OK}, func(s *api.State) { s.Booked = s.Booked[1:] }},
		{asked{[]int{5}, 2, 30, api.OK}, func(s *api.State) { s.Booked[1].Used[2] = 0 }}, {asked{[]int{9, 5, 1}, 1, 0, api.OK}, func(s *api.State) {}},
		{asked{[]int{3}, 1, 5, api.ErrRoom}, func(s *api.State) {}}, {asked{[]int{5, 3}, 2, 1, api.ErrRoom}, func(s *api.State) {}}, {asked{[]int{9}, 0, 1, api.ErrRoom}, func(s *api.State) {}},
	} {
		expect(t, some(), func(s api.State) (api.State, api.Errno) { return state.Release(s, x.ids, x.class, x.size) }, but(x.set), x.code)
	}
	for _, x := range errors() {
		expect(t, some(), func(s api.State) (api.State, api.Errno) { return state.Release(s, x.ids, x.class, x.size) }, some(), x.code)
	}
}

func TestIDsAreLeftP21_6(t *testing.T) {
	ids := []int{9, 3, 1, -7}
	state.Book(some(), ids[:3], 0, 1)
	state.Release(some(), ids[:3], 0, 0)
	if !slices.Equal(ids, []int{9, 3, 1, -7}) {
		t.Error(ids)
	}
}

func TestStaysRightP21_7(t *testing.T) {
	d, done, s := &trial.Dice{Seed: 21}, 0, state.New()
	for i := range 4000 {
		ids := []int{1 + d.Throw(9), 10 + d.Throw(9)}[:1+d.Throw(2)]
		from := 1 + d.Throw(3)
		c := contact(1+d.Throw(18), from, 1+(from+d.Throw(2))%3, i/50+d.Throw(9), i/50+9+d.Throw(40), 1+d.Throw(3))
		next, code := s, api.OK
		switch d.Throw(9) {
		case 0, 1:
			next, code = state.Edit(s, onContact(api.OpAdd, c))
		case 2:
			next, code = state.Edit(s, onContact(api.OpDelete, api.Contact{ID: c.ID}))
		case 3:
			next, code = state.Edit(s, onContact(api.OpChange, api.Contact{ID: c.ID, Rate: c.Rate}))
		case 4:
			next, code = state.Advance(s, i/50)
		case 5:
			next, code = state.Release(s, ids, d.Throw(3), d.Throw(9))
		default:
			class, size := d.Throw(3), d.Throw(30)
			if next, code = state.Book(s, ids, class, size); code == api.OK {
				if back, code := state.Release(next, ids, class, size); code != api.OK || !same(back, s) {
					t.Fatal("what was booked may be released", i, code, back, s)
				}
			}
		}
		if !state.Right(next) || code != api.OK && !state.Same(next, s) {
			t.Fatal(i, code, next)
		}
		if code == api.OK {
			done++
		}
		s = next
	}
	if done < 500 {
		t.Error("too little was done:", done)
	}
}

func TestToLoadIsToEditP21_7(t *testing.T) {
	d := &trial.Dice{Seed: 217}
	for range 200 {
		p := trial.Plan(d, 3, 10)
		s := api.State{Plan: p, Booked: trial.Booked(d, p)}
		l := []api.Directive{}
		for range 1 + d.Throw(4) {
			c := contact(1+d.Throw(40), 1, 2+d.Throw(2), d.Throw(20), 20+d.Throw(9), 1+d.Throw(3))
			l = append(l, []api.Directive{onContact(api.OpAdd, c), onContact(api.OpDelete, api.Contact{ID: c.ID}), onContact(api.OpChange, api.Contact{ID: c.ID, Rate: c.Rate})}[d.Throw(3)])
		}
		want, fault := s, api.Fault{}
		for i, d := range l {
			var code api.Errno
			if want, code = state.Edit(want, d); code != api.OK {
				want, fault = s, api.Fault{Line: i + 1, Code: code}
				break
			}
		}
		lines, _ := text.Print(l)
		got, f := state.Load(s, lines)
		if f != fault || !same(got, want) || !ledger.Right(got.Booked) {
			t.Fatal(lines, got, f, fault)
		}
	}
}
