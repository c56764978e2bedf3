package contacts_test

import (
	"slices"
	"testing"

	"felucca/api"
	"felucca/contacts"
)

func contact(id, from, to, start, end, rate int) api.Contact {
	return api.Contact{ID: id, From: from, To: to, Start: start, End: end, Rate: rate}
}

// table is a right one, its rows by From, To and Start, its IDs in no order.
func table() []api.Contact {
	return []api.Contact{contact(5, 1, 2, 0, 9, 1), contact(3, 1, 2, 9, 12, 7), contact(9, 1, 3, 4, 6, 2), contact(1, 2, 1, 0, 100, 3)}
}

// full is a right table of n rows.
func full(n int) []api.Contact {
	var l []api.Contact
	for i := range n {
		l = append(l, contact(n-i, 1, 2, 2*i, 2*i+1, 1))
	}
	return l
}

// tell hands f a table with spare room, and holds what it answers to be new memory, and the table to be as it was.
func tell(t *testing.T, l []api.Contact, f func(l []api.Contact) []api.Contact) []api.Contact {
	t.Helper()
	mark := contact(-7, -7, -7, -7, -7, -7)
	given := append(slices.Clone(l), mark, mark)
	was := slices.Clone(given)
	got := f(given[:len(l)])
	answer := slices.Clone(got)
	for i := range got[:cap(got)] {
		got[:cap(got)][i] = contact(-8, 0, 0, 0, 0, 0)
	}
	if !slices.Equal(given, was) {
		t.Errorf("what was handed in changed: %v", given)
	}
	return answer
}

func TestCompareP6_1(t *testing.T) {
	rising := []api.Contact{
		contact(9, 1, 2, 5, 6, 9), contact(1, 1, 2, 6, 7, 9), contact(2, 1, 2, 6, 7, 1), contact(1, 1, 3, 0, 1, 1), contact(1, 2, 1, 0, 1, 1),
		contact(api.MinInt, 3, 0, 0, 0, 0), contact(api.MaxInt, 3, 0, 0, 0, 0), contact(0, 3, 0, 1, 0, 0),
	}
	for i, a := range rising {
		for j, b := range rising {
			want := 0
			if i < j {
				want = -1
			} else if i > j {
				want = 1
			}
			if got := contacts.Compare(a, b); got != want {
				t.Error(a, b, got)
			}
		}
	}
	if contacts.Compare(contact(1, 1, 2, 3, 4, 5), contact(1, 1, 2, 3, 9, 8)) != 0 {
		t.Error("End and Rate do not matter")
	}
	if contacts.Compare(contact(1, api.MinInt, 2, 3, 4, 5), contact(1, api.MaxInt, 2, 3, 4, 5)) != -1 {
		t.Error("far apart")
	}
}

func TestRightP6_1(t *testing.T) {
	for _, l := range [][]api.Contact{nil, {}, table(), full(4096), {contact(1, 1, 2, 5, 6, 1), contact(2, 1, 2, 6, 7, 1)}, {contact(1, 1, 2, 5, 9, 1), contact(2, 2, 1, 5, 9, 1)}} {
		if !contacts.Right(l) {
			t.Error("right:", len(l))
		}
	}
	swapped := table()
	swapped[0], swapped[3] = swapped[3], swapped[0]
	twice := table()
	twice[3].ID = 5
	for _, l := range [][]api.Contact{
		full(4097), swapped, twice, {{}}, append(table(), contact(2, 3, 3, 0, 1, 1)), append(table(), contact(2, 3, 1, 0, 1, 0)),
		{contact(1, 1, 2, 0, 9, 1), contact(2, 1, 2, 8, 12, 1)}, {contact(1, 1, 2, 0, 9, 1), contact(2, 1, 2, 0, 9, 1)},
		{contact(1, 1, 2, 0, 9, 1), contact(2, 1, 2, 3, 4, 1)}, {contact(1, 1, 2, 0, 9, 1), contact(1, 1, 2, 0, 9, 1)},
		{contact(1, 1, 2, 5, 9, 1), contact(2, 1, 2, 1, 4, 1)},
	} {
		if contacts.Right(l) {
			t.Error("not right:", len(l), l[:1])
		}
	}
}

func TestSameP6_1(t *testing.T) {
	if !contacts.Same(nil, []api.Contact{}) || !contacts.Same(table(), table()) || !contacts.Same([]api.Contact{{}}, []api.Contact{{}}) {
		t.Error("the same")
	}
	if contacts.Same(table(), table()[:3]) || contacts.Same(nil, table()) {
		t.Error("one is longer")
	}
	for i := range 4 {
		for _, set := range []func(c *api.Contact){
			func(c *api.Contact) { c.ID++ }, func(c *api.Contact) { c.From++ }, func(c *api.Contact) { c.To++ },
			func(c *api.Contact) { c.Start++ }, func(c *api.Contact) { c.End++ }, func(c *api.Contact) { c.Rate++ },
		} {
			l := table()
			set(&l[i])
			if contacts.Same(l, table()) {
				t.Error(l[i])
			}
		}
	}
}

func TestFindP6_2(t *testing.T) {
	for _, want := range table() {
		if c, ok := contacts.Find(table(), want.ID); c != want || !ok {
			t.Error(want, c, ok)
		}
	}
	for _, id := range []int{0, 2, 4, -5, api.MaxInt, api.MinInt} {
		if c, ok := contacts.Find(table(), id); c != (api.Contact{}) || ok {
			t.Error(id, c, ok)
		}
	}
	if _, ok := contacts.Find(nil, 1); ok {
		t.Error("none")
	}
}

func add(t *testing.T, l []api.Contact, c api.Contact, want []api.Contact, code api.Errno) {
	t.Helper()
	got := tell(t, l, func(l []api.Contact) []api.Contact {
		got, e := contacts.Add(l, c)
		if e != code {
			t.Error(c, e)
		}
		return got
	})
	if !slices.Equal(got, want) {
		t.Error(c, got)
	}
	if !contacts.Right(got) {
		t.Error("P6.7: what is right stays right", c)
	}
}

func TestAddP6_3(t *testing.T) {
	l := table()
	for i, c := range l {
		without := slices.Concat(l[:i], l[i+1:])
		add(t, without, c, l, api.OK)
	}
	add(t, nil, l[0], l[:1], api.OK)
	gap := contact(2, 1, 2, 20, 30, 1)
	add(t, l, gap, slices.Insert(table(), 2, gap), api.OK)
	last := contact(1048576, 255, 254, 0, 2147483647, 1)
	add(t, l, last, append(table(), last), api.OK)
	add(t, full(4095), contact(4096, 1, 2, 9000, 9001, 1), append(full(4095), contact(4096, 1, 2, 9000, 9001, 1)), api.OK)
}

func TestAddErrorsP6_3(t *testing.T) {
	l := table()
	for _, x := range []struct {
		l    []api.Contact
		c    api.Contact
		code api.Errno
	}{
		{l, contact(0, 1, 2, 20, 30, 1), api.ErrArg}, {l, contact(1, 1, 1, 20, 30, 1), api.ErrArg}, {full(4096), contact(1, 1, 2, 5, 5, 1), api.ErrArg},
		{full(4096), contact(5000, 3, 4, 0, 1, 1), api.ErrFull}, {full(4096), contact(1, 1, 2, 0, 1, 1), api.ErrFull},
		{l, contact(9, 7, 8, 0, 1, 1), api.ErrTwice}, {l, contact(5, 1, 2, 0, 9, 1), api.ErrTwice},
		{l, contact(7, 1, 2, 8, 12, 1), api.ErrOverlap}, {l, contact(7, 1, 2, 11, 40, 1), api.ErrOverlap}, {l, contact(7, 1, 2, 0, 9, 1), api.ErrOverlap},
		{l, contact(7, 1, 3, 0, 5, 1), api.ErrOverlap}, {l, contact(7, 1, 3, 5, 9, 1), api.ErrOverlap}, {l, contact(7, 2, 1, 99, 101, 1), api.ErrOverlap},
		{l, contact(7, 1, 3, 0, 90, 1), api.ErrOverlap}, {l, contact(7, 2, 1, 50, 51, 1), api.ErrOverlap},
	} {
		add(t, x.l, x.c, x.l, x.code)
	}
	for _, c := range []api.Contact{contact(7, 1, 3, 0, 4, 1), contact(7, 1, 3, 6, 9, 1), contact(7, 2, 1, 100, 101, 1), contact(7, 3, 1, 4, 6, 1), contact(7, 1, 4, 4, 6, 1)} {
		if _, e := contacts.Add(l, c); e != api.OK {
			t.Error(c, "overlaps with none:", e)
		}
	}
}

func TestDeleteP6_4(t *testing.T) {
	for i, c := range table() {
		want := slices.Delete(table(), i, i+1)
		got := tell(t, table(), func(l []api.Contact) []api.Contact {
			got, e := contacts.Delete(l, c.ID)
			if e != api.OK {
				t.Error(e)
			}
			return got
		})
		if !slices.Equal(got, want) {
			t.Error(c.ID, got)
		}
	}
	for _, id := range []int{0, 2, -1, api.MaxInt} {
		got := tell(t, table(), func(l []api.Contact) []api.Contact {
			got, e := contacts.Delete(l, id)
			if e != api.ErrNone {
				t.Error(e)
			}
			return got
		})
		if !slices.Equal(got, table()) {
			t.Error(id, got)
		}
	}
}

func TestChangeP6_4(t *testing.T) {
	for _, x := range []struct {
		id, rate int
		code     api.Errno
	}{
		{5, 1, api.OK}, {5, 8, api.OK}, {3, 2147483647, api.OK}, {9, 4, api.OK}, {1, 4, api.OK},
		{5, 0, api.ErrArg}, {5, -1, api.ErrArg}, {5, 2147483648, api.ErrArg}, {2, 0, api.ErrArg}, {2, api.MinInt, api.ErrArg}, {2, api.MaxInt, api.ErrArg},
		{2, 1, api.ErrNone}, {0, 2147483647, api.ErrNone}, {-5, 1, api.ErrNone},
	} {
		want := table()
		for i := range want {
			if want[i].ID == x.id && x.code == api.OK {
				want[i].Rate = x.rate
			}
		}
		got := tell(t, table(), func(l []api.Contact) []api.Contact {
			got, e := contacts.Change(l, x.id, x.rate)
			if e != x.code {
				t.Error(x, e)
			}
			return got
		})
		if !slices.Equal(got, want) {
			t.Error(x, got)
		}
	}
}

func TestExpireP6_5(t *testing.T) {
	for _, x := range []struct {
		now  int
		gone []int
	}{{-1, nil}, {0, nil}, {5, nil}, {6, []int{9}}, {8, []int{9}}, {9, []int{5, 9}}, {12, []int{3, 5, 9}}, {99, []int{3, 5, 9}}, {100, []int{1, 3, 5, 9}}, {api.MaxInt, []int{1, 3, 5, 9}}, {api.MinInt, nil}} {
		var want []api.Contact
		for _, c := range table() {
			if c.End > x.now {
				want = append(want, c)
			}
		}
		got := tell(t, table(), func(l []api.Contact) []api.Contact {
			got, ids := contacts.Expire(l, x.now)
			if !slices.Equal(ids, x.gone) {
				t.Error(x.now, ids)
			}
			return got
		})
		if !slices.Equal(got, want) || !contacts.Right(got) {
			t.Error(x.now, got)
		}
	}
}

func TestErrorsGiveNewMemoryP6_6(t *testing.T) {
	for _, l := range [][]api.Contact{table(), full(4096)} {
		for _, f := range []func(l []api.Contact) ([]api.Contact, api.Errno){
			func(l []api.Contact) ([]api.Contact, api.Errno) { return contacts.Add(l, api.Contact{}) },
			func(l []api.Contact) ([]api.Contact, api.Errno) { return contacts.Add(l, l[0]) },
			func(l []api.Contact) ([]api.Contact, api.Errno) { return contacts.Delete(l, 0) },
			func(l []api.Contact) ([]api.Contact, api.Errno) { return contacts.Change(l, 0, 1) },
			func(l []api.Contact) ([]api.Contact, api.Errno) { return contacts.Change(l, 5, 0) },
		} {
			got := tell(t, l, func(l []api.Contact) []api.Contact {
				got, e := f(l)
				if e == api.OK {
					t.Error("an error was due")
				}
				return got
			})
			if !slices.Equal(got, l) {
				t.Error("P6.7: an error changes nothing")
			}
		}
	}
}

func TestStaysRightP6_7(t *testing.T) {
	var l []api.Contact
	for i := range 900 {
		c := contact(1+i*7%40, 1+i%3, 1+i*5%4, i*13%50, i*13%50+1+i%9, 1+i%5)
		next, code := l, api.OK
		switch i % 5 {
		case 3:
			next, code = contacts.Delete(l, c.ID)
		case 4:
			next, code = contacts.Change(l, c.ID, c.Rate)
		default:
			next, code = contacts.Add(l, c)
		}
		if !contacts.Right(next) || code != api.OK && !contacts.Same(next, l) || code == api.OK && i%5 < 3 && len(next) != len(l)+1 {
			t.Fatal(i, code, next)
		}
		l = next
	}
	left, gone := contacts.Expire(l, 25)
	if !contacts.Right(left) || len(left)+len(gone) != len(l) || len(l) < 10 {
		t.Error(len(left), len(gone), len(l))
	}
}
