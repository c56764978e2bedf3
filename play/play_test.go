package play_test

import (
	"slices"
	"strings"
	"testing"

	"felucca/api"
	"felucca/bundle"
	"felucca/order"
	"felucca/play"
	"felucca/router"
	"felucca/script"
	"felucca/state"
	"felucca/text"
	"felucca/trial"
)

// example is the plan of the document's example, as text.
const example = "a range 1 2 0 90 4\na range 2 3 0 90 1\na contact 1 1 2 10 20 3\na contact 2 2 3 5 30 2\n"

// told is acts, each with what it is to tell behind those ahead.
func told() ([]api.Act, []api.Result) {
	viaTwo := func(send, there, sent, arrive int) []api.Route {
		return []api.Route{{Hops: []api.Hop{{ID: 1, Send: send, Arrive: there}, {ID: 2, Send: sent, Arrive: arrive}}, Arrive: arrive}}
	}
	b := api.Bundle{From: 1, To: 3, Size: 7, Deadline: 100}
	var acts []api.Act
	var results []api.Result
	for _, x := range []struct {
		a api.Act
		r api.Result
	}{
		{api.Act{Do: api.DoLoad, Text: example}, api.Result{}},
		{api.Act{Do: api.DoRoute, B: b}, api.Result{Routes: viaTwo(10, 17, 17, 22)}},
		{api.Act{Do: api.DoList, B: api.Bundle{From: 1, To: 3}, N: 8}, api.Result{Routes: viaTwo(10, 14, 14, 15)}},
		{api.Act{Do: api.DoBook, IDs: []int{1, 2}, Size: 7}, api.Result{}},
		{api.Act{Do: api.DoRoute, B: b}, api.Result{Routes: viaTwo(13, 20, 20, 25)}},
		{api.Act{Do: api.DoBook, IDs: []int{1}, Size: 24}, api.Result{Code: api.ErrRoom}},
		{api.Act{Do: api.DoRelease, IDs: []int{1, 2}, Size: 8}, api.Result{Code: api.ErrRoom}},
		{api.Act{Do: api.DoRelease, IDs: []int{1, 2}, Size: 7}, api.Result{}},
		{api.Act{Do: api.DoAdvance, N: 12}, api.Result{}},
		{api.Act{Do: api.DoRoute, B: b}, api.Result{Routes: viaTwo(12, 19, 19, 24)}},
		{api.Act{Do: api.DoAdvance, N: 11}, api.Result{Code: api.ErrPast}},
		{api.Act{Do: api.DoLoad, Text: "# no\n\nd contact 1\nd contact 1\n"}, api.Result{Code: api.ErrNone, Line: 4}},
		{api.Act{Do: api.DoLoad, Text: "\nx\n"}, api.Result{Code: api.ErrForm, Line: 2}},
		{api.Act{Do: api.DoEdit, D: api.Directive{Op: api.OpDelete, Kind: api.KindContact, C: api.Contact{ID: 2}}}, api.Result{}},
		{api.Act{Do: api.DoRoute, B: b}, api.Result{Code: api.ErrNone}},
		{api.Act{Do: api.DoList, B: api.Bundle{From: 1, To: 3}, N: 8}, api.Result{}},
		{api.Act{Do: api.DoList, B: api.Bundle{From: 1, To: 3}, N: 9}, api.Result{Code: api.ErrArg}},
		{api.Act{Do: api.DoList, B: api.Bundle{From: 9, To: 9}, N: 2}, api.Result{Routes: []api.Route{{Arrive: 12}}}},
		{api.Act{Do: api.DoRoute, B: api.Bundle{From: 9, To: 9, Deadline: 12}}, api.Result{Routes: []api.Route{{Arrive: 12}}}},
		{api.Act{Do: api.DoRoute}, api.Result{Code: api.ErrArg}},
		{api.Act{Do: api.DoEdit}, api.Result{Code: api.ErrArg}},
		{api.Act{Do: 0, Text: "d contact 1"}, api.Result{Code: api.ErrArg}}, {api.Act{Do: 8}, api.Result{Code: api.ErrArg}}, {api.Act{Do: -1, IDs: []int{1}}, api.Result{Code: api.ErrArg}},
		{api.Act{Do: api.MaxInt}, api.Result{Code: api.ErrArg}}, {api.Act{Do: api.DoBook, IDs: []int{1}, Class: 1, Size: 5}, api.Result{}},
	} {
		acts, results = append(acts, x.a), append(results, x.r)
	}
	return acts, results
}

// same holds results one by one, without the program's own Same.
func same(a, b []api.Result) bool {
	return slices.EqualFunc(a, b, func(x, y api.Result) bool {
		return x.Code == y.Code && x.Line == y.Line && slices.EqualFunc(x.Routes, y.Routes, func(r, s api.Route) bool {
			return r.Arrive == s.Arrive && slices.Equal(r.Hops, s.Hops)
		})
	})
}

func TestRunP26_1(t *testing.T)   { tells(t, play.Run) }
func TestModelP26_2(t *testing.T) { tells(t, play.Model) }

func tells(t *testing.T, run func(l []api.Act) ([]api.Result, api.State)) {
	t.Helper()
	acts, want := told()
	for n := range len(acts) + 1 {
		got, s := run(acts[:n])
		if !same(got, want[:n]) {
			t.Fatal(n, got)
		}
		if !state.Right(s) {
			t.Error(n, s)
		}
	}
	_, s := run(acts)
	end := api.State{
		Plan: api.Plan{
			Contacts: []api.Contact{{ID: 1, From: 1, To: 2, Start: 10, End: 20, Rate: 3}}, Ranges: []api.Range{{From: 1, To: 2, Start: 0, End: 90, Owlt: 4}, {From: 2, To: 3, Start: 0, End: 90, Owlt: 1}},
			Clock: 12, Version: 6,
		},
		Booked: []api.Booked{{ID: 1, Used: [3]int{0, 5, 0}}},
	}
	if !state.Same(s, end) {
		t.Errorf("%+v", s)
	}
	if got, s := run(nil); len(got) != 0 || !state.Same(s, state.New()) {
		t.Error("no acts: no results, and a new state", got, s)
	}
}

func TestSameP26_3(t *testing.T) {
	full := func() api.Result {
		return api.Result{Code: 3, Line: 4, Routes: []api.Route{{Hops: []api.Hop{{ID: 1, Send: 2, Arrive: 3}}, Arrive: 3}, {Arrive: 9}}}
	}
	if !play.Same(nil, []api.Result{}) || !play.Same([]api.Result{full(), {}}, []api.Result{full(), {Routes: []api.Route{}}}) {
		t.Error("the same")
	}
	if play.Same([]api.Result{full()}, []api.Result{full(), full()}) || play.Same([]api.Result{{}}, nil) {
		t.Error("one is longer")
	}
	for i, set := range []func(r *api.Result){
		func(r *api.Result) { r.Code++ }, func(r *api.Result) { r.Line++ }, func(r *api.Result) { r.Routes = r.Routes[:1] }, func(r *api.Result) { r.Routes[1].Arrive++ },
		func(r *api.Result) { r.Routes[0].Hops[0].Send++ }, func(r *api.Result) { r.Routes[0].Hops = nil },
	} {
		r := full()
		if set(&r); play.Same([]api.Result{full(), r}, []api.Result{full(), full()}) {
			t.Error(i, r)
		}
	}
}

func TestNothingIsSharedP26_3(t *testing.T) {
	for _, run := range []func(l []api.Act) ([]api.Result, api.State){play.Run, play.Model} {
		acts, want := told()
		was, _ := told()
		got, s := run(acts)
		if !script.Same(acts, was) {
			t.Error("what was handed in changed")
		}
		for i := range got {
			for j := range got[i].Routes {
				for h := range got[i].Routes[j].Hops {
					got[i].Routes[j].Hops[h].ID = -8
				}
			}
			clear(got[i].Routes[:cap(got[i].Routes)])
		}
		clear(s.Plan.Contacts)
		clear(s.Booked)
		if again, end := run(acts); !same(again, want) || !state.Right(end) || len(end.Booked) != 1 {
			t.Error("two answers share their memory")
		}
	}
}

// acts are calls made of bytes; time goes on slowly, and there is room enough, so that much is done.
func acts(d *trial.Dice, n int) []api.Act {
	var b []byte
	for i := range n {
		x := make([]byte, 10)
		for j := range x {
			x[j] = byte(d.Throw(256))
		}
		switch d.Throw(6) {
		case 0: // A range, which is there for long.
			copy(x, []byte{1, 2})
			x[5], x[6] = byte(100+d.Throw(150)), byte(d.Throw(3))
		case 1: // A contact.
			x[0], x[1], x[6], x[7] = 1, 0, byte(20+d.Throw(40)), byte(d.Throw(4))
		case 2:
			x[5] %= 32 // Small sizes, and near deadlines.
		}
		if x[0]%7 == 2 {
			x[1] = byte(i * 90 / n)
		}
		b = append(b, x...)
	}
	l, _ := script.Acts(b)
	return l
}

func TestTheSameP26_4(t *testing.T) {
	d := &trial.Dice{Seed: 26}
	var codes [9]int
	routes := 0
	for range 120 {
		l := acts(d, 200)
		got, end := play.Run(l)
		want, last := play.Model(l)
		if !same(got, want) || !play.Same(got, want) || !state.Same(end, last) || !state.Right(end) {
			t.Fatal(l)
		}
		for _, r := range got {
			codes[r.Code]++
			routes += len(r.Routes)
		}
	}
	for code, n := range codes {
		if n == 0 && api.Errno(code) != api.ErrFull {
			t.Error("nothing told", code)
		}
	}
	if routes < 500 {
		t.Error("there were too few routes:", routes)
	}
}

func TestAnyBytesP26_4(t *testing.T) {
	d := &trial.Dice{Seed: 264}
	for range 100 {
		b := make([]byte, d.Throw(800))
		for i := range b {
			b[i] = byte(d.Throw(256))
		}
		l, _ := script.Acts(b)
		got, end := play.Run(l)
		want, last := play.Model(l)
		if !same(got, want) || !state.Same(end, last) || len(got) != len(l) {
			t.Fatal(b)
		}
	}
}

// TestModelIsStateAndBundleP26_2 makes the model's calls itself.
func TestModelIsStateAndBundleP26_2(t *testing.T) {
	d := &trial.Dice{Seed: 262}
	for range 40 {
		l := acts(d, 150)
		s, want := state.New(), []api.Result{}
		for _, a := range l {
			var r api.Result
			var f api.Fault
			switch a.Do {
			case api.DoLoad:
				s, f = state.Load(s, a.Text)
				r = api.Result{Code: f.Code, Line: f.Line}
			case api.DoEdit:
				s, r.Code = state.Edit(s, a.D)
			case api.DoAdvance:
				s, r.Code = state.Advance(s, a.N)
			case api.DoBook:
				s, r.Code = state.Book(s, a.IDs, a.Class, a.Size)
			case api.DoRelease:
				s, r.Code = state.Release(s, a.IDs, a.Class, a.Size)
			case api.DoRoute:
				var one api.Route
				if one, r.Code = bundle.Route(s.Plan, s.Booked, a.B); r.Code == api.OK {
					r.Routes = []api.Route{one}
				}
			case api.DoList:
				r.Routes, r.Code = bundle.List(s.Plan, a.B.From, a.B.To, a.N)
			}
			want = append(want, r)
		}
		if got, end := play.Model(l); !same(got, want) || !state.Same(end, s) {
			t.Fatal(l)
		}
		if got, end := play.Run(l); !same(got, want) || !state.Same(end, s) {
			t.Fatal(l)
		}
	}
}

// do makes one call of r, and tells its error.
func do(r *router.Router, a api.Act) api.Errno {
	switch a.Do {
	case api.DoLoad:
		return r.Load(a.Text).Code
	case api.DoEdit:
		return r.Edit(a.D)
	case api.DoAdvance:
		return r.Advance(a.N)
	case api.DoBook:
		return r.Book(a.IDs, a.Class, a.Size)
	case api.DoRelease:
		return r.Release(a.IDs, a.Class, a.Size)
	case api.DoRoute:
		_, code := r.Route(a.B)
		return code
	}
	_, code := r.List(a.B.From, a.B.To, a.N)
	return code
}

func TestWhatIsRefusedLeavesTheStateT1(t *testing.T) {
	d := &trial.Dice{Seed: 1}
	for range 20 {
		r := router.New()
		for _, a := range acts(d, 200) {
			before := r.State()
			code := do(r, a)
			asks := a.Do == api.DoRoute || a.Do == api.DoList
			if (code != api.OK || asks) && !state.Same(r.State(), before) {
				t.Fatal(a, code, r.State())
			}
		}
	}
}

// reached calls f with routers in states that were reached by acts.
func reached(d *trial.Dice, runs int, f func(r *router.Router)) {
	for range runs {
		r := router.New()
		for i, a := range acts(d, 160) {
			do(r, a)
			if i%20 == 19 {
				f(r)
			}
		}
	}
}

func TestTheBestRouteT2(t *testing.T) {
	d, found := &trial.Dice{Seed: 2}, 0
	reached(d, 40, func(r *router.Router) {
		s := r.State()
		for range 6 {
			b := api.Bundle{From: 1 + d.Throw(4), To: 1 + d.Throw(4), Size: d.Throw(40), Class: d.Throw(3), Deadline: s.Plan.Clock + d.Throw(120)}
			var all []api.Route
			for _, one := range trial.Ways(s.Plan, s.Booked, b) {
				if bundle.Fits(s.Plan, s.Booked, b, one) {
					all = append(all, one)
				}
			}
			got, code := r.Route(b)
			if (code == api.OK) != (len(all) > 0) || code != api.OK && code != api.ErrNone {
				t.Fatal(s, b, got, code, all)
			}
			if code != api.OK {
				continue
			}
			if want := order.Sort(all)[0]; order.Compare(got, want) != 0 || !bundle.Fits(s.Plan, s.Booked, b, got) {
				t.Fatal(s, b, got, want)
			}
			if b.From == b.To && (len(got.Hops) != 0 || got.Arrive != s.Plan.Clock) {
				t.Fatal("from a node to itself", got)
			}
			found += len(got.Hops)
		}
	})
	if found < 100 {
		t.Error("too little was found:", found)
	}
}

func TestTheFirstRoutesT3(t *testing.T) {
	d, most := &trial.Dice{Seed: 3}, 0
	reached(d, 30, func(r *router.Router) {
		s := r.State()
		for range 6 {
			from, to, k := 1+d.Throw(4), 1+d.Throw(4), 1+d.Throw(8)
			all := order.Sort(trial.Ways(s.Plan, nil, api.Bundle{From: from, To: to}))
			got, code := r.List(from, to, k)
			if code != api.OK || !order.Same(got, all[:min(k, len(all))]) {
				t.Fatal(s, from, to, k, got, all)
			}
			most = max(most, len(all))
		}
	})
	if most < 3 {
		t.Error("there were too few routes:", most)
	}
}

func TestRoomT4(t *testing.T) {
	d, booked := &trial.Dice{Seed: 4}, 0
	reached(d, 60, func(r *router.Router) {
		s := r.State()
		for _, b := range s.Booked {
			for _, c := range s.Plan.Contacts {
				if c.ID == b.ID && slices.Max(b.Used[:]) > c.Rate*(c.End-c.Start) {
					t.Fatal("more is booked than the volume", c, b)
				}
			}
		}
		ids, class, size := []int{1 + d.Throw(16)}, d.Throw(3), d.Throw(30)
		if r.Book(ids, class, size) != api.OK {
			return
		}
		booked++
		if code := r.Release(ids, class, size); code != api.OK || !state.Same(r.State(), s) {
			t.Fatal("what was booked and released leaves all as it was", code, ids, class, size)
		}
	})
	if booked < 40 {
		t.Error("too little was booked:", booked)
	}
}

func TestBoundsT5(t *testing.T) {
	numbers := []int{api.MinInt, api.MinInt + 1, -1, 1 << 31, 1<<40 + 1, 1 << 62, api.MaxInt - 1, api.MaxInt}
	r := router.New()
	r.Load(example)
	r.Load("a range 3 4 0 2147483647 2147483647\na contact 3 3 4 2147483646 2147483647 2147483647\na range 4 3 0 2147483647 0\na contact 4 4 3 0 2147483647 2147483647\n")
	before := r.State()
	for _, n := range numbers {
		for _, a := range []api.Act{
			{Do: api.DoAdvance, N: n}, {Do: api.DoBook, IDs: []int{1}, Class: n}, {Do: api.DoBook, IDs: []int{1}, Size: n}, {Do: api.DoBook, IDs: []int{n}}, {Do: api.DoRelease, IDs: []int{1}, Class: n},
			{Do: api.DoRelease, IDs: []int{1}, Size: n}, {Do: api.DoRelease, IDs: []int{n}}, {Do: api.DoRoute, B: api.Bundle{From: n, To: 1, Deadline: 9}}, {Do: api.DoRoute, B: api.Bundle{From: 1, To: n, Deadline: 9}},
			{Do: api.DoRoute, B: api.Bundle{From: 1, To: 1, Class: n, Deadline: 9}}, {Do: api.DoList, B: api.Bundle{From: n, To: 1}, N: 1}, {Do: api.DoList, B: api.Bundle{From: 1, To: 1}, N: n},
			{Do: api.DoEdit, D: api.Directive{Op: api.OpChange, Kind: api.KindContact, C: api.Contact{ID: 1, Rate: n}}}, {Do: api.DoEdit, D: api.Directive{Op: n, Kind: api.KindContact, C: api.Contact{ID: 1}}},
			{Do: api.DoEdit, D: api.Directive{Op: api.OpAdd, Kind: api.KindContact, C: api.Contact{ID: 9, From: 1, To: 2, Start: 50, End: n, Rate: 1}}},
			{Do: api.DoEdit, D: api.Directive{Op: api.OpAdd, Kind: api.KindRange, R: api.Range{From: 1, To: 9, Start: n, End: 90, Owlt: 1}}},
			{Do: api.DoEdit, D: api.Directive{Op: api.OpChange, Kind: api.KindRange, R: api.Range{From: 1, To: 2, Owlt: n}}},
		} {
			if code := do(r, a); code == api.OK || !state.Same(r.State(), before) {
				t.Error(a, code)
			}
		}
		if code := do(r, api.Act{Do: api.DoRoute, B: api.Bundle{From: 1, To: 1, Size: n, Deadline: 9}}); code != api.ErrArg && n != 1<<31 {
			t.Error("size", n, code)
		}
		if code := do(r, api.Act{Do: api.DoRoute, B: api.Bundle{From: 1, To: 1, Deadline: n}}); code != api.ErrArg && n != 1<<31 {
			t.Error("deadline", n, code)
		}
	}
	if l, code := r.List(3, 4, 1); code != api.OK || len(l) != 1 || l[0].Arrive != 2147483646+2147483647 {
		t.Error("times go on behind the greatest one of plans", l, code)
	}
	if code := r.Book([]int{4}, 2, api.MaxSize); code != api.OK {
		t.Error(code)
	}
	if route, code := r.Route(api.Bundle{From: 4, To: 3, Size: api.MaxSize, Class: 2, Deadline: api.Far}); code != api.OK || route.Arrive != 1026 {
		t.Error(route, code)
	}
}

func TestTextsT6(t *testing.T) {
	d, faults := &trial.Dice{Seed: 6}, 0
	for range 3000 {
		s := lines(d)
		l, f := text.Parse(s)
		if f == (api.Fault{}) {
			printed, ok := text.Print(l)
			if again, g := text.Parse(printed); !ok || g != f || !slices.Equal(again, l) {
				t.Fatalf("%q: what is printed is read as it was: %q", s, printed)
			}
		} else if faults++; len(l) != 0 || !slices.Contains(text.Lines(s), f.Line) || f.Code != api.ErrForm && f.Code != api.ErrArg {
			t.Fatalf("%q: %+v", s, f)
		}
		whole, single := router.New(), router.New()
		told := whole.Load(s)
		for i, one := range l {
			if code := single.Edit(one); code != api.OK {
				f, single = api.Fault{Line: text.Lines(s)[i], Code: code}, router.New()
				break
			}
		}
		if told != f || !state.Same(whole.State(), single.State()) {
			t.Fatalf("%q: to load a text is to edit by its directives: %+v, %+v", s, told, f)
		}
	}
	if faults < 300 || faults > 2700 {
		t.Error("texts were too much alike:", faults)
	}
}

// lines is a text of few lines, most of them directives.
func lines(d *trial.Dice) string {
	var s strings.Builder
	for range d.Throw(5) {
		var x [10]byte
		for i := range x {
			x[i] = byte(d.Throw(256))
		}
		line, ok := text.Print([]api.Directive{script.Directive(x)})
		switch {
		case d.Throw(6) == 0:
			line = strings.Repeat(string(x[:3]), d.Throw(2)) + "\n"
		case d.Throw(4) == 0 || !ok:
			line = " \t# " + line
		case d.Throw(6) == 0:
			line = strings.ReplaceAll(line, " ", "\t \r")
		}
		s.WriteString(line)
	}
	return strings.TrimSuffix(s.String(), strings.Repeat("\n", d.Throw(2)))
}
