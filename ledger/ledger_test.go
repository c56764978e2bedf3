package ledger_test

import (
	"slices"
	"testing"

	"felucca/api"
	"felucca/ledger"
)

func row(id, low, middle, high int) api.Booked {
	return api.Booked{ID: id, Used: [3]int{low, middle, high}}
}

// some is a right ledger.
func some() []api.Booked {
	return []api.Booked{row(2, 1, 0, 0), row(5, 3, 10, 4), row(9, 0, 0, 6)}
}

// thirty is a contact of the volume 30.
func thirty(id int) api.Contact {
	return api.Contact{ID: id, From: 1, To: 2, Start: 10, End: 20, Rate: 3}
}

// tell hands f a ledger with spare room, and holds what it answers to be new memory, and the ledger to be as it was.
func tell(t *testing.T, l []api.Booked, f func(l []api.Booked) []api.Booked) []api.Booked {
	t.Helper()
	given := append(slices.Clone(l), row(-7, 1, 1, 1), row(-7, 1, 1, 1))
	was := slices.Clone(given)
	got := f(given[:len(l)])
	answer := slices.Clone(got)
	for i := range got[:cap(got)] {
		got[:cap(got)][i] = row(-8, 0, 0, 0)
	}
	if !slices.Equal(given, was) {
		t.Errorf("P9.6: what was handed in changed: %v", given)
	}
	return answer
}

// expect holds what f answers to what it is to be.
func expect(t *testing.T, l []api.Booked, f func(l []api.Booked) ([]api.Booked, bool), want []api.Booked, ok bool) {
	t.Helper()
	got := tell(t, l, func(l []api.Booked) []api.Booked {
		got, done := f(l)
		if done != ok {
			t.Error("told", done)
		}
		return got
	})
	if !slices.Equal(got, want) {
		t.Error(got, "for", want)
	}
	if !ledger.Right(got) {
		t.Error("P9.7: what is right stays right")
	}
}

func TestRightP9_1(t *testing.T) {
	for _, l := range [][]api.Booked{nil, {}, some(), {row(1, 1<<62, 1<<62, 1<<62), row(1048576, 0, 1, 0)}} {
		if !ledger.Right(l) {
			t.Error("right:", l)
		}
	}
	for _, l := range [][]api.Booked{
		{row(0, 1, 0, 0)}, {row(1048577, 1, 0, 0)}, {row(-1, 1, 0, 0)}, {row(1, 0, 0, 0)}, {row(1, -1, 0, 0)}, {row(1, 1, -1, 0)}, {row(1, 1, 0, -1)},
		{row(1, 1<<62+1, 0, 0)}, {row(1, 0, 1<<62+1, 0)}, {row(1, 0, 0, api.MaxInt)}, {row(2, 1, 0, 0), row(2, 1, 0, 0)}, {row(2, 1, 0, 0), row(1, 1, 0, 0)},
		append(some(), row(10, 0, 0, 0)), append(some(), row(9, 1, 0, 0)),
	} {
		if ledger.Right(l) {
			t.Error("not right:", l)
		}
	}
}

func TestSameP9_1(t *testing.T) {
	if !ledger.Same(nil, []api.Booked{}) || !ledger.Same(some(), some()) || !ledger.Same([]api.Booked{{}, {}}, []api.Booked{{}, {}}) {
		t.Error("the same")
	}
	if ledger.Same(some(), some()[:2]) || ledger.Same(nil, some()) {
		t.Error("one is longer")
	}
	for i := range 3 {
		l := some()
		if l[i].ID++; ledger.Same(l, some()) {
			t.Error(l)
		}
		for class := range 3 {
			l := some()
			if l[i].Used[class]++; ledger.Same(l, some()) {
				t.Error(l)
			}
		}
	}
}

func TestUsedP9_2(t *testing.T) {
	for _, b := range some() {
		if got := ledger.Used(some(), b.ID); got != b.Used {
			t.Error(b, got)
		}
	}
	for _, id := range []int{0, 1, 3, 8, 10, -2, api.MaxInt, api.MinInt} {
		if got := ledger.Used(some(), id); got != [3]int{} {
			t.Error(id, got)
		}
	}
	if got := ledger.Used(nil, 2); got != [3]int{} {
		t.Error(got)
	}
}

func TestBacklogP9_2(t *testing.T) {
	much := []api.Booked{row(1, 1<<62, 1<<62, 1<<62), row(2, 1, 1<<62-1, 1), row(3, 1, 1, 1<<62-1), row(4, 1<<62, 0, 0)}
	for _, x := range []struct {
		l               []api.Booked
		id, class, want int
	}{
		{some(), 5, 0, 17}, {some(), 5, 1, 14}, {some(), 5, 2, 4}, {some(), 2, 0, 1}, {some(), 2, 1, 0}, {some(), 2, 2, 0}, {some(), 9, 0, 6}, {some(), 9, 2, 6},
		{some(), 5, 3, 0}, {some(), 5, -1, 0}, {some(), 5, api.MaxInt, 0}, {some(), 5, api.MinInt, 0}, {some(), 4, 0, 0}, {nil, 4, 1, 0},
		{much, 1, 0, 1 << 62}, {much, 1, 1, 1 << 62}, {much, 1, 2, 1 << 62}, {much, 2, 0, 1 << 62}, {much, 2, 1, 1 << 62}, {much, 2, 2, 1},
		{much, 3, 0, 1 << 62}, {much, 3, 1, 1 << 62}, {much, 3, 2, 1<<62 - 1}, {much, 4, 0, 1 << 62}, {much, 4, 1, 0},
	} {
		if got := ledger.Backlog(x.l, x.id, x.class); got != x.want {
			t.Error(x, got)
		}
	}
}

func TestRoomP9_3(t *testing.T) {
	bad := thirty(5)
	bad.Rate = 0
	for _, x := range []struct {
		l           []api.Booked
		c           api.Contact
		class, want int
	}{
		{some(), thirty(5), 0, 13}, {some(), thirty(5), 1, 16}, {some(), thirty(5), 2, 26}, {some(), thirty(4), 0, 30}, {nil, thirty(5), 2, 30},
		{[]api.Booked{row(7, 0, 10, 0)}, thirty(7), 0, 20}, {[]api.Booked{row(7, 0, 10, 0)}, thirty(7), 1, 20}, {[]api.Booked{row(7, 0, 10, 0)}, thirty(7), 2, 30},
		{[]api.Booked{row(7, 10, 10, 10)}, thirty(7), 0, 0}, {[]api.Booked{row(7, 11, 10, 10)}, thirty(7), 0, 0}, {[]api.Booked{row(7, 1<<62, 1<<62, 1<<62)}, thirty(7), 1, 0},
		{some(), thirty(5), 3, 0}, {some(), thirty(5), -1, 0}, {some(), thirty(5), api.MaxInt, 0}, {some(), thirty(5), api.MinInt, 0}, {some(), bad, 0, 0}, {some(), api.Contact{}, 0, 0}, {some(), thirty(0), 1, 0},
	} {
		if got := ledger.Room(x.l, x.c, x.class); got != x.want {
			t.Error(x, got)
		}
	}
}

func TestBookP9_4(t *testing.T) {
	bad := thirty(5)
	bad.To = 1
	for _, x := range []struct {
		c           api.Contact
		class, size int
		want        []api.Booked
		ok          bool
	}{
		{thirty(5), 0, 13, []api.Booked{row(2, 1, 0, 0), row(5, 16, 10, 4), row(9, 0, 0, 6)}, true},
		{thirty(5), 1, 1, []api.Booked{row(2, 1, 0, 0), row(5, 3, 11, 4), row(9, 0, 0, 6)}, true},
		{thirty(5), 2, 26, []api.Booked{row(2, 1, 0, 0), row(5, 3, 10, 30), row(9, 0, 0, 6)}, true},
		{thirty(1), 0, 30, append([]api.Booked{row(1, 30, 0, 0)}, some()...), true},
		{thirty(4), 1, 7, slices.Insert(some(), 1, row(4, 0, 7, 0)), true},
		{thirty(1048576), 2, 1, append(some(), row(1048576, 0, 0, 1)), true},
		{thirty(5), 0, 0, some(), true}, {thirty(4), 0, 0, some(), true}, {thirty(4), 2, 0, some(), true},
		{thirty(5), 0, 14, some(), false}, {thirty(5), 1, 17, some(), false}, {thirty(5), 2, 27, some(), false}, {thirty(4), 0, 31, some(), false},
		{thirty(5), 0, -1, some(), false}, {thirty(5), 3, 1, some(), false}, {thirty(5), -1, 1, some(), false}, {thirty(5), 3, 0, some(), false}, {thirty(5), api.MaxInt, 0, some(), false},
		{bad, 0, 1, some(), false}, {bad, 0, 0, some(), false}, {thirty(0), 0, 0, some(), false}, {thirty(5), 0, api.MaxInt, some(), false}, {thirty(5), 0, api.MinInt, some(), false},
	} {
		expect(t, some(), func(l []api.Booked) ([]api.Booked, bool) { return ledger.Book(l, x.c, x.class, x.size) }, x.want, x.ok)
	}
	over := []api.Booked{row(5, 0, 31, 0)}
	expect(t, over, func(l []api.Booked) ([]api.Booked, bool) { return ledger.Book(l, thirty(5), 1, 0) }, over, true)
	expect(t, over, func(l []api.Booked) ([]api.Booked, bool) { return ledger.Book(l, thirty(5), 1, 1) }, over, false)
}

func TestReleaseP9_4(t *testing.T) {
	for _, x := range []struct {
		id, class, size int
		want            []api.Booked
		ok              bool
	}{
		{5, 0, 3, []api.Booked{row(2, 1, 0, 0), row(5, 0, 10, 4), row(9, 0, 0, 6)}, true},
		{5, 1, 4, []api.Booked{row(2, 1, 0, 0), row(5, 3, 6, 4), row(9, 0, 0, 6)}, true},
		{2, 0, 1, some()[1:], true}, {9, 2, 6, some()[:2], true}, {9, 2, 5, []api.Booked{row(2, 1, 0, 0), row(5, 3, 10, 4), row(9, 0, 0, 1)}, true},
		{5, 0, 0, some(), true}, {2, 2, 0, some(), true}, {4, 1, 0, some(), true}, {0, 1, 0, some(), true}, {-7, 1, 0, some(), true}, {api.MaxInt, 1, 0, some(), true},
		{5, 0, 4, some(), false}, {5, 1, 11, some(), false}, {2, 1, 1, some(), false}, {4, 0, 1, some(), false}, {5, 0, -1, some(), false}, {5, 3, 0, some(), false}, {5, -1, 0, some(), false},
		{5, 0, api.MinInt, some(), false}, {5, 0, api.MaxInt, some(), false}, {5, api.MinInt, 0, some(), false},
	} {
		expect(t, some(), func(l []api.Booked) ([]api.Booked, bool) { return ledger.Release(l, x.id, x.class, x.size) }, x.want, x.ok)
	}
}

func TestDropP9_5(t *testing.T) {
	for _, x := range []struct {
		ids  []int
		want []api.Booked
	}{
		{nil, some()}, {[]int{5}, []api.Booked{some()[0], some()[2]}}, {[]int{9, 2}, some()[1:2]}, {[]int{9, 5, 2, 5}, nil}, {[]int{0, -2, 4, api.MaxInt}, some()}, {[]int{2, 2, 3}, some()[1:]},
	} {
		ids := append(slices.Clone(x.ids), -9)
		expect(t, some(), func(l []api.Booked) ([]api.Booked, bool) { return ledger.Drop(l, ids[:len(x.ids)]...), true }, x.want, true)
		if !slices.Equal(ids[:len(x.ids)], x.ids) || ids[len(x.ids)] != -9 {
			t.Error("P9.6: IDs changed", ids)
		}
	}
	if l := ledger.Drop(nil, 1); len(l) != 0 {
		t.Error(l)
	}
}

func TestBookedAndReleasedP9_7(t *testing.T) {
	for _, b := range []int{1, 2, 4, 5, 9, 10} {
		for class := range 3 {
			for _, size := range []int{0, 1, 7, 13, 26, 30} {
				booked, ok := ledger.Book(some(), thirty(b), class, size)
				if !ok {
					continue
				}
				released, ok := ledger.Release(booked, b, class, size)
				if !ok || !slices.Equal(released, some()) {
					t.Error(b, class, size, released)
				}
			}
		}
	}
}

func TestNoMoreThanTheVolumeP9_7(t *testing.T) {
	var l []api.Booked
	done := 0
	for i := range 600 {
		c, class, size := thirty(1+i*7%5), i*5%3, i*11%17
		next, ok := ledger.Book(l, c, class, size)
		if i%4 == 3 {
			next, ok = ledger.Release(l, c.ID, class, size)
		}
		if !ledger.Right(next) || !ok && !ledger.Same(next, l) {
			t.Fatal(i, next)
		}
		if ok {
			done++
		}
		for _, b := range next {
			for _, n := range b.Used {
				if n > 30 {
					t.Fatal(i, next)
				}
			}
		}
		l = next
	}
	if done < 50 {
		t.Error("too little was done:", done)
	}
}

func TestErrorsGiveNewMemoryP9_6(t *testing.T) {
	for i, f := range []func(l []api.Booked) ([]api.Booked, bool){
		func(l []api.Booked) ([]api.Booked, bool) { return ledger.Book(l, api.Contact{}, 0, 0) },
		func(l []api.Booked) ([]api.Booked, bool) { return ledger.Book(l, thirty(5), 0, 99) },
		func(l []api.Booked) ([]api.Booked, bool) { return ledger.Release(l, 5, 3, 0) },
		func(l []api.Booked) ([]api.Booked, bool) { return ledger.Release(l, 4, 0, 1) },
		func(l []api.Booked) ([]api.Booked, bool) { return ledger.Drop(l), false },
	} {
		l := some()
		got, ok := f(l)
		if ok || !slices.Equal(got, some()) {
			t.Error(i, got, ok)
		}
		got[0].Used[0] = 99
		if !slices.Equal(l, some()) {
			t.Error("what is answered shares with what was handed in", i)
		}
	}
}
