package ranges_test

import (
	"slices"
	"testing"

	"felucca/api"
	"felucca/ranges"
)

func span(from, to, start, end, owlt int) api.Range {
	return api.Range{From: from, To: to, Start: start, End: end, Owlt: owlt}
}

// table is a right one.
func table() []api.Range {
	return []api.Range{span(1, 2, 0, 9, 4), span(1, 2, 9, 12, 7), span(1, 2, 20, 30, 1), span(1, 3, 4, 6, 2), span(2, 1, 0, 100, 0)}
}

// full is a right table of n rows.
func full(n int) []api.Range {
	var l []api.Range
	for i := range n {
		l = append(l, span(1, 2, 2*i, 2*i+1, i))
	}
	return l
}

// tell hands f a table with spare room, and holds what it answers to be new memory, and the table to be as it was.
func tell(t *testing.T, l []api.Range, f func(l []api.Range) []api.Range) []api.Range {
	t.Helper()
	mark := span(-7, -7, -7, -7, -7)
	given := append(slices.Clone(l), mark, mark)
	was := slices.Clone(given)
	got := f(given[:len(l)])
	answer := slices.Clone(got)
	for i := range got[:cap(got)] {
		got[:cap(got)][i] = span(-8, 0, 0, 0, 0)
	}
	if !slices.Equal(given, was) {
		t.Errorf("what was handed in changed: %v", given)
	}
	return answer
}

// expect holds what f answers, and its error, to what they are to be.
func expect(t *testing.T, l []api.Range, f func(l []api.Range) ([]api.Range, api.Errno), want []api.Range, code api.Errno) {
	t.Helper()
	got := tell(t, l, func(l []api.Range) []api.Range {
		got, e := f(l)
		if e != code {
			t.Error(e, "for", code)
		}
		return got
	})
	if !slices.Equal(got, want) {
		t.Error(got, "for", want)
	}
	if !ranges.Right(got) {
		t.Error("P7.6: what is right stays right")
	}
}

func TestCompareP7_1(t *testing.T) {
	rising := []api.Range{span(api.MinInt, 9, 9, 9, 9), span(1, 2, 5, 6, 9), span(1, 2, 6, 7, 9), span(1, 3, 0, 1, 1), span(2, 1, 0, 1, 1), span(api.MaxInt, 0, 0, 0, 0)}
	for i, a := range rising {
		for j, b := range rising {
			want := 0
			if i < j {
				want = -1
			} else if i > j {
				want = 1
			}
			if got := ranges.Compare(a, b); got != want {
				t.Error(a, b, got)
			}
		}
	}
	if ranges.Compare(span(1, 2, 3, 4, 5), span(1, 2, 3, 9, 8)) != 0 {
		t.Error("End and Owlt do not matter")
	}
}

func TestRightP7_1(t *testing.T) {
	for _, l := range [][]api.Range{nil, {}, table(), full(4096), {span(1, 2, 5, 9, 1), span(2, 1, 5, 9, 1)}} {
		if !ranges.Right(l) {
			t.Error("right:", len(l))
		}
	}
	swapped := table()
	swapped[1], swapped[2] = swapped[2], swapped[1]
	for _, l := range [][]api.Range{
		full(4097), swapped, {{}}, append(table(), span(3, 3, 0, 1, 1)), append(table(), span(3, 1, 0, 1, -1)), {span(1, 2, 5, 5, 1)},
		{span(1, 2, 0, 9, 1), span(1, 2, 8, 12, 1)}, {span(1, 2, 0, 9, 1), span(1, 2, 0, 9, 1)}, {span(1, 2, 0, 9, 1), span(1, 2, 3, 4, 1)},
		{span(2, 1, 0, 9, 1), span(1, 2, 0, 9, 1)}, {span(1, 3, 0, 9, 1), span(1, 2, 0, 9, 1)},
	} {
		if ranges.Right(l) {
			t.Error("not right:", len(l), l[:1])
		}
	}
}

func TestSameP7_1(t *testing.T) {
	if !ranges.Same(nil, []api.Range{}) || !ranges.Same(table(), table()) || !ranges.Same([]api.Range{{}}, []api.Range{{}}) {
		t.Error("the same")
	}
	if ranges.Same(table(), table()[:4]) || ranges.Same(nil, table()) {
		t.Error("one is longer")
	}
	for i := range 5 {
		for _, set := range []func(r *api.Range){
			func(r *api.Range) { r.From++ }, func(r *api.Range) { r.To++ }, func(r *api.Range) { r.Start++ }, func(r *api.Range) { r.End++ }, func(r *api.Range) { r.Owlt++ },
		} {
			l := table()
			set(&l[i])
			if ranges.Same(l, table()) {
				t.Error(l[i])
			}
		}
	}
}

func TestAddP7_2(t *testing.T) {
	add := func(l []api.Range, r api.Range, want []api.Range, code api.Errno) {
		t.Helper()
		expect(t, l, func(l []api.Range) ([]api.Range, api.Errno) { return ranges.Add(l, r) }, want, code)
	}
	l := table()
	for i, r := range l {
		add(slices.Concat(l[:i], l[i+1:]), r, l, api.OK)
	}
	add(nil, l[0], l[:1], api.OK)
	add(l, span(255, 254, 2147483646, 2147483647, 2147483647), append(table(), span(255, 254, 2147483646, 2147483647, 2147483647)), api.OK)
	for _, r := range []api.Range{span(1, 2, 12, 20, 3), span(1, 3, 0, 4, 3), span(1, 3, 6, 7, 3), span(2, 1, 100, 101, 3), span(3, 1, 4, 6, 3), span(1, 4, 4, 6, 3)} {
		if _, e := ranges.Add(l, r); e != api.OK {
			t.Error(r, "overlaps with none:", e)
		}
	}
	add(full(4095), span(3, 4, 0, 1, 0), append(full(4095), span(3, 4, 0, 1, 0)), api.OK)
	for _, x := range []struct {
		l    []api.Range
		r    api.Range
		code api.Errno
	}{
		{l, span(1, 1, 40, 50, 1), api.ErrArg}, {l, span(1, 2, 40, 40, 1), api.ErrArg}, {l, span(1, 2, 0, 9, -1), api.ErrArg}, {full(4096), span(0, 2, 0, 1, 1), api.ErrArg},
		{full(4096), span(3, 4, 0, 1, 1), api.ErrFull}, {full(4096), span(1, 2, 0, 1, 0), api.ErrFull},
		{l, span(1, 2, 0, 9, 4), api.ErrOverlap}, {l, span(1, 2, 8, 9, 1), api.ErrOverlap}, {l, span(1, 2, 11, 13, 1), api.ErrOverlap}, {l, span(1, 2, 12, 21, 1), api.ErrOverlap},
		{l, span(1, 2, 29, 99, 1), api.ErrOverlap}, {l, span(1, 3, 0, 90, 1), api.ErrOverlap}, {l, span(2, 1, 50, 51, 1), api.ErrOverlap}, {l, span(1, 3, 3, 5, 1), api.ErrOverlap},
	} {
		add(x.l, x.r, x.l, x.code)
	}
}

func TestDeleteP7_3(t *testing.T) {
	for i, r := range table() {
		want := slices.Delete(table(), i, i+1)
		r.End, r.Owlt = -5, api.MaxInt
		expect(t, table(), func(l []api.Range) ([]api.Range, api.Errno) { return ranges.Delete(l, r) }, want, api.OK)
	}
	for _, r := range []api.Range{{}, span(1, 2, 1, 9, 4), span(1, 3, 0, 9, 4), span(2, 2, 0, 9, 4), span(3, 1, 4, 6, 2), span(1, 2, -9, 0, 0)} {
		expect(t, table(), func(l []api.Range) ([]api.Range, api.Errno) { return ranges.Delete(l, r) }, table(), api.ErrNone)
	}
}

func TestChangeP7_3(t *testing.T) {
	for i, r := range table() {
		for _, owlt := range []int{0, 1, 2147483647} {
			want := table()
			want[i].Owlt = owlt
			r.End, r.Owlt = -5, owlt
			expect(t, table(), func(l []api.Range) ([]api.Range, api.Errno) { return ranges.Change(l, r) }, want, api.OK)
		}
	}
	for _, x := range []struct {
		r    api.Range
		code api.Errno
	}{
		{span(1, 2, 0, 9, -1), api.ErrArg}, {span(1, 2, 0, 9, 2147483648), api.ErrArg}, {span(7, 7, 7, 7, api.MinInt), api.ErrArg}, {span(7, 7, 7, 7, api.MaxInt), api.ErrArg},
		{span(1, 2, 1, 9, 0), api.ErrNone}, {span(7, 7, 7, 7, 2147483647), api.ErrNone}, {api.Range{}, api.ErrNone}, {span(1, 3, 0, 6, 2), api.ErrNone},
	} {
		expect(t, table(), func(l []api.Range) ([]api.Range, api.Errno) { return ranges.Change(l, x.r) }, table(), x.code)
	}
}

func TestExpireP7_4(t *testing.T) {
	for _, now := range []int{api.MinInt, -1, 0, 5, 6, 8, 9, 11, 12, 30, 99, 100, api.MaxInt} {
		var want []api.Range
		for _, r := range table() {
			if r.End > now {
				want = append(want, r)
			}
		}
		expect(t, table(), func(l []api.Range) ([]api.Range, api.Errno) { return ranges.Expire(l, now), api.OK }, want, api.OK)
	}
}

// slowOwlt asks one range after the other.
func slowOwlt(l []api.Range, c api.Contact) (int, bool) {
	for _, r := range l {
		if r.From == c.From && r.To == c.To && r.Start <= c.Start && r.End >= c.End {
			return r.Owlt, true
		}
	}
	return 0, false
}

func TestOwltP7_4(t *testing.T) {
	contact := func(from, to, start, end int) api.Contact {
		return api.Contact{From: from, To: to, Start: start, End: end}
	}
	for _, x := range []struct {
		c    api.Contact
		want int
		ok   bool
	}{
		{contact(1, 2, 0, 9), 4, true}, {contact(1, 2, 3, 4), 4, true}, {contact(1, 2, 9, 12), 7, true}, {contact(1, 2, 8, 10), 0, false}, {contact(1, 2, 0, 12), 0, false},
		{contact(1, 2, 20, 31), 0, false}, {contact(1, 2, 19, 30), 0, false}, {contact(1, 2, 22, 30), 1, true}, {contact(1, 3, 4, 6), 2, true}, {contact(3, 1, 4, 6), 0, false},
		{contact(2, 1, 0, 100), 0, true}, {contact(2, 1, 0, 101), 0, false}, {contact(2, 1, -1, 5), 0, false}, {contact(9, 9, 0, 1), 0, false},
		{contact(1, 2, 25, 5), 4, true}, {contact(1, 2, 25, 10), 7, true}, {contact(1, 2, 9, api.MinInt), 4, true}, {contact(1, 2, api.MinInt, 1), 0, false},
	} {
		if owlt, ok := ranges.Owlt(table(), x.c); owlt != x.want || ok != x.ok {
			t.Error(x.c, owlt, ok)
		}
	}
	for from := range 4 {
		for to := range 4 {
			for start := -1; start < 32; start++ {
				for end := -1; end < 32; end++ {
					c := contact(from, to, start, end)
					owlt, ok := ranges.Owlt(table(), c)
					if want, wantOK := slowOwlt(table(), c); owlt != want || ok != wantOK {
						t.Error(c, owlt, ok)
					}
				}
			}
		}
	}
	if owlt, ok := ranges.Owlt(nil, contact(1, 2, 0, 1)); owlt != 0 || ok {
		t.Error("none")
	}
}

func TestErrorsGiveNewMemoryP7_5(t *testing.T) {
	l := full(4096)
	expect(t, l, func(l []api.Range) ([]api.Range, api.Errno) { return ranges.Add(l, l[0]) }, l, api.ErrFull)
	expect(t, l, func(l []api.Range) ([]api.Range, api.Errno) { return ranges.Add(l, api.Range{}) }, l, api.ErrArg)
	expect(t, l, func(l []api.Range) ([]api.Range, api.Errno) { return ranges.Delete(l, api.Range{}) }, l, api.ErrNone)
	expect(t, l, func(l []api.Range) ([]api.Range, api.Errno) { return ranges.Change(l, api.Range{}) }, l, api.ErrNone)
	given := table()
	ranges.Owlt(given, api.Contact{From: 1, To: 2, Start: 1, End: 2})
	if !slices.Equal(given, table()) {
		t.Error("Owlt changes nothing")
	}
}

func TestStaysRightP7_6(t *testing.T) {
	var l []api.Range
	for i := range 600 {
		r := span(1+i%3, 1+i*5%4, i*13%50, i*13%50+1+i%9, i%5)
		next, code := l, api.OK
		switch i % 5 {
		case 3:
			next, code = ranges.Delete(l, r)
		case 4:
			next, code = ranges.Change(l, r)
		default:
			next, code = ranges.Add(l, r)
		}
		if !ranges.Right(next) || code != api.OK && !ranges.Same(next, l) || code == api.OK && i%5 < 3 && len(next) != len(l)+1 {
			t.Fatal(i, code, next)
		}
		l = next
	}
	if len(l) < 10 {
		t.Error(len(l))
	}
	for _, r := range l {
		for start := r.Start; start < r.End; start++ {
			c := api.Contact{ID: 1, From: r.From, To: r.To, Start: start, End: r.End, Rate: 1}
			if owlt, ok := ranges.Owlt(l, c); owlt != r.Owlt || !ok {
				t.Error(c, owlt, ok)
			}
		}
	}
}
