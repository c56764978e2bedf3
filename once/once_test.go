package once_test

import (
	"slices"
	"sync"
	"testing"

	"felucca/api"
	"felucca/best"
	"felucca/once"
	"felucca/order"
	"felucca/path"
	"felucca/trial"
)

func TestMadeP22_1(t *testing.T) {
	for name, call := range map[string]func(r *once.Row){
		"Get 8": func(r *once.Row) { r.Get(8) }, "Get 0": func(r *once.Row) { r.Get(0) }, "Get -1": func(r *once.Row) { r.Get(-1) },
		"Uses": func(r *once.Row) { r.Uses(1) }, "Holds": func(r *once.Row) { r.Holds(1) },
	} {
		for _, r := range []*once.Row{once.New(trial.Ladder(), 1, 4, 0), once.New(nil, 1, 4, 0), once.New(nil, 1, 1, 0), once.New(trial.Ladder(), 0, 4, 0)} {
			if r.Made() != 0 || r.Made() != 0 {
				t.Error("it is made ahead of", name)
			}
			if call(r); r.Made() != 1 {
				t.Error(name, r.Made())
			}
			r.Get(1)
			r.Uses(5)
			r.Holds(7)
			if call(r); r.Made() != 1 {
				t.Error("it is made again by", name, r.Made())
			}
		}
	}
}

func TestGetP22_2(t *testing.T) {
	for _, x := range []struct{ from, to, now int }{{1, 4, 0}, {1, 4, 20}, {1, 3, 0}, {1, 2, 0}, {4, 1, 0}, {1, 4, 50}, {3, 3, 9}, {0, 1, 0}, {1, 256, 0}, {1, 4, -1}, {1, 4, 1<<40 + 1}, {7, 7, 1 << 40}} {
		all := best.Routes(trial.Ladder(), x.from, x.to, x.now, 0, 1<<40, 8)
		r := once.New(trial.Ladder(), x.from, x.to, x.now)
		for _, k := range []int{8, 1, 3, 0, -1, 9, api.MaxInt, api.MinInt, 7} {
			if got := r.Get(k); !order.Same(got, all[:max(0, min(k, len(all)))]) {
				t.Error(x, k, got)
			}
		}
	}
	if n := len(once.New(trial.Ladder(), 1, 4, 0).Get(99)); n != 8 {
		t.Error("of ten routes there are eight:", n)
	}
	wrong := trial.Ladder()
	wrong[0].ID = 2
	if n := len(once.New(wrong, 1, 4, 0).Get(8)); n != 0 {
		t.Error("it is not right to ask:", n)
	}
}

func TestUsesP22_3(t *testing.T) {
	r := once.New(trial.Ladder(), 1, 4, 0)
	used := map[int]bool{}
	for _, one := range r.Get(8) {
		for _, id := range path.IDs(one) {
			used[id] = true
		}
	}
	for id := -1; id < 12; id++ {
		if r.Uses(id) != used[id] {
			t.Error(id)
		}
	}
	if used[8] || !used[7] || !used[6] {
		t.Error(used)
	}
	if once.New(trial.Ladder(), 3, 3, 0).Uses(0) || once.New(nil, 1, 4, 0).Uses(1) {
		t.Error("there are no hops")
	}
}

func TestHoldsP22_3(t *testing.T) {
	late := append(trial.Ladder()[:7], api.Edge{ID: 20, From: 1, To: 4, Open: 30, End: 50, Rate: 1})
	for _, x := range []struct {
		l             []api.Edge
		from, to, now int
		at            int
		want          bool
	}{
		{trial.Ladder(), 1, 4, 0, 0, true}, {trial.Ladder(), 1, 4, 0, 10, true}, {trial.Ladder(), 1, 4, 0, 11, false}, {trial.Ladder(), 1, 4, 12, 12, true}, {trial.Ladder(), 1, 4, 12, 13, false}, {trial.Ladder(), 1, 4, 12, api.MinInt, true},
		{late, 1, 4, 0, 10, true}, {late, 1, 4, 0, 11, false}, {late[7:], 1, 4, 0, 30, true}, {late[7:], 1, 4, 0, 31, false}, {late[7:], 1, 4, 0, api.MaxInt, false},
		{trial.Ladder(), 3, 3, 0, 0, false}, {trial.Ladder(), 3, 3, 0, api.MinInt, false}, {trial.Ladder(), 4, 1, 0, api.MaxInt, true}, {nil, 1, 2, 0, 5, true}, {trial.Ladder(), 0, 1, 0, 5, true},
	} {
		if got := once.New(x.l, x.from, x.to, x.now).Holds(x.at); got != x.want {
			t.Error(x, got)
		}
	}
}

func TestNothingIsSharedP22_4(t *testing.T) {
	l := append(trial.Ladder(), api.Edge{ID: -7})
	r := once.New(l[:8], 1, 4, 0)
	for i := range l {
		l[i] = api.Edge{ID: -8}
	}
	want := best.Routes(trial.Ladder(), 1, 4, 0, 0, 1<<40, 8)
	got := r.Get(8)
	if !order.Same(got, want) {
		t.Error("what was handed in was kept", got)
	}
	for i := range got {
		for j := range got[i].Hops[:cap(got[i].Hops)] {
			got[i].Hops[:cap(got[i].Hops)][j] = api.Hop{ID: -8}
		}
	}
	for i := range got[:cap(got)] {
		got[:cap(got)][i] = api.Route{Arrive: -8}
	}
	if again := r.Get(8); !order.Same(again, want) || r.Uses(-8) {
		t.Error("what was answered was kept", again)
	}
	given := append(trial.Ladder(), api.Edge{ID: -7})
	once.New(given[:8], 1, 4, 0).Get(8)
	if !slices.Equal(given, append(trial.Ladder(), api.Edge{ID: -7})) {
		t.Error("what was handed in changed", given)
	}
}

func TestSeveralAtOnceP22_4(t *testing.T) {
	want := best.Routes(trial.Ladder(), 1, 4, 0, 0, 1<<40, 8)
	for range 20 {
		r := once.New(trial.Ladder(), 1, 4, 0)
		var all sync.WaitGroup
		for i := range 16 {
			all.Go(func() {
				if got := r.Get(i); !order.Same(got, want[:min(i, 8)]) {
					t.Error(i, got)
				}
				if r.Uses(8) || !r.Uses(7) || !r.Holds(10) || r.Holds(11) || r.Made() != 1 {
					t.Error(i)
				}
			})
		}
		all.Wait()
		if r.Made() != 1 {
			t.Error(r.Made())
		}
	}
}

func TestWhatHoldsIsAsAnewP22_5(t *testing.T) {
	d, held := &trial.Dice{Seed: 22}, 0
	for range 1500 {
		l := trial.Edges(d, 2+d.Throw(4), 1+d.Throw(12))
		from, to, now := 1+d.Throw(4), 1+d.Throw(4), d.Throw(6)
		r := once.New(l, from, to, now)
		for later := now; later < now+8; later++ {
			anew := best.Routes(l, from, to, later, 0, 1<<40, 8)
			if !r.Holds(later) {
				continue
			}
			if !order.Same(r.Get(8), anew) {
				t.Fatal(l, from, to, now, later, r.Get(8), anew)
			}
			if len(anew) > 0 && later > now {
				held++
			}
		}
	}
	if held < 100 {
		t.Error("too little held:", held)
	}
}
