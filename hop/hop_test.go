package hop_test

import (
	"testing"

	"felucca/api"
	"felucca/hop"
)

// usual is the edge of the chapter's example.
func usual() api.Edge {
	return api.Edge{ID: 1, From: 1, To: 2, Open: 10, End: 20, Rate: 3, Owlt: 4, Room: 30}
}

// changes are edges that differ from the usual one in one field each.
func changes(set func(e *api.Edge, n int), values ...int) []api.Edge {
	var l []api.Edge
	for _, n := range values {
		e := usual()
		set(&e, n)
		l = append(l, e)
	}
	return l
}

func id(e *api.Edge, n int)   { e.ID = n }
func from(e *api.Edge, n int) { e.From = n }
func to(e *api.Edge, n int)   { e.To = n }
func open(e *api.Edge, n int) { e.Open = n }
func end(e *api.Edge, n int)  { e.End = n }
func rate(e *api.Edge, n int) { e.Rate = n }
func owlt(e *api.Edge, n int) { e.Owlt = n }
func room(e *api.Edge, n int) { e.Room = n }

func wrongEdges() []api.Edge {
	l := []api.Edge{{}}
	l = append(l, changes(id, 0, -1, 1048577, api.MinInt, api.MaxInt)...)
	l = append(l, changes(from, 0, 2, 256, -1, api.MinInt, api.MaxInt)...)
	l = append(l, changes(to, 0, 1, 256, -1, api.MinInt, api.MaxInt)...)
	l = append(l, changes(open, -1, 1<<40+1, api.MinInt, api.MaxInt)...)
	l = append(l, changes(end, 0, -1, 1<<31, api.MinInt, api.MaxInt)...)
	l = append(l, changes(rate, 0, -1, 1<<31, api.MinInt, api.MaxInt)...)
	l = append(l, changes(owlt, -1, 1<<31, api.MinInt, api.MaxInt)...)
	return append(l, changes(room, -1, 1<<62+1, api.MinInt, api.MaxInt)...)
}

func TestRightP10_1(t *testing.T) {
	l := []api.Edge{usual()}
	l = append(l, changes(id, 1, 1048576)...)
	l = append(l, changes(from, 3, 255)...)
	l = append(l, changes(to, 3, 255)...)
	l = append(l, changes(open, 0, 20, 21, 1<<31, 1<<40)...)
	l = append(l, changes(end, 1, 9, 10, 1<<31-1)...)
	l = append(l, changes(rate, 1, 1<<31-1)...)
	l = append(l, changes(owlt, 0, 1<<31-1)...)
	l = append(l, changes(room, 0, 1<<62)...)
	for _, e := range l {
		if !hop.Right(e) {
			t.Error("right:", e)
		}
	}
	for _, e := range wrongEdges() {
		if hop.Right(e) {
			t.Error("not right:", e)
		}
	}
}

func TestNotRightToAskP10_1(t *testing.T) {
	none := func(e api.Edge, at, size int) {
		t.Helper()
		if n := hop.Takes(e, size); n != 0 && at == 12 {
			t.Error("Takes", e, size, n)
		}
		if sent, there, ok := hop.Pass(e, at, size); sent != 0 || there != 0 || ok {
			t.Error("Pass", e, at, size, sent, there, ok)
		}
		if n, ok := hop.Latest(e, at, size); n != 0 || ok {
			t.Error("Latest", e, at, size, n, ok)
		}
	}
	for _, e := range wrongEdges() {
		none(e, 12, 0)
		none(e, 12, 7)
	}
	wide := usual()
	wide.Room, wide.Open, wide.End, wide.Rate = 1<<62, 0, 1<<31-1, 1<<31-1
	for _, size := range []int{-1, 1 << 40, api.MinInt, api.MaxInt} {
		none(wide, 12, size)
	}
	for _, at := range []int{-1, 1<<40 + 1, api.MinInt, api.MaxInt} {
		none(wide, at, 0)
	}
}

func TestTakesP10_2(t *testing.T) {
	for _, x := range []struct{ rate, size, want int }{
		{3, 7, 3}, {3, 6, 2}, {3, 0, 0}, {3, 1, 1}, {1, 1<<40 - 1, 1<<40 - 1}, {1<<31 - 1, 1<<40 - 1, 513}, {1<<31 - 1, 1, 1},
	} {
		e := usual()
		if e.Rate = x.rate; hop.Takes(e, x.size) != x.want {
			t.Error(x, hop.Takes(e, x.size))
		}
	}
	full := usual()
	full.Room = 0
	if hop.Takes(full, 7) != 3 {
		t.Error("Room does not matter")
	}
}

func TestPassP10_3(t *testing.T) {
	for _, x := range []struct {
		at, size, sent, there int
		ok                    bool
	}{
		{12, 7, 12, 19, true}, {10, 7, 10, 17, true}, {9, 7, 10, 17, true}, {0, 7, 10, 17, true}, {0, 30, 10, 24, true}, {0, 31, 0, 0, false}, {11, 30, 0, 0, false},
		{17, 7, 17, 24, true}, {18, 7, 0, 0, false}, {19, 3, 19, 24, true}, {19, 4, 0, 0, false}, {19, 0, 19, 23, true}, {20, 0, 0, 0, false}, {21, 0, 0, 0, false},
		{1 << 40, 0, 0, 0, false}, {0, 0, 10, 14, true}, {0, 1<<40 - 1, 0, 0, false},
	} {
		if sent, there, ok := hop.Pass(usual(), x.at, x.size); sent != x.sent || there != x.there || ok != x.ok {
			t.Error(x, sent, there, ok)
		}
	}
	shut := usual()
	shut.Open = 20
	if _, _, ok := hop.Pass(shut, 0, 0); ok {
		t.Error("it opens when it is over")
	}
	shut.Open = 1 << 40
	if _, _, ok := hop.Pass(shut, 0, 0); ok {
		t.Error("it opens never")
	}
	full := usual()
	full.Room = 0
	if _, there, ok := hop.Pass(full, 0, 0); !ok || there != 14 {
		t.Error("nothing needs no room")
	}
	if _, _, ok := hop.Pass(full, 0, 1); ok {
		t.Error("there is no room")
	}
	last := api.Edge{ID: 1, From: 1, To: 2, Open: 0, End: 1<<31 - 1, Rate: 1, Owlt: 1<<31 - 1, Room: 1 << 62}
	if sent, there, ok := hop.Pass(last, 1<<31-2, 1); sent != 1<<31-2 || there != 1<<32-2 || !ok {
		t.Error(sent, there, ok)
	}
}

func TestLatestP10_4(t *testing.T) {
	for _, x := range []struct {
		by, size, want int
		ok             bool
	}{
		{19, 7, 12, true}, {24, 7, 17, true}, {25, 7, 17, true}, {1 << 40, 7, 17, true}, {17, 7, 10, true}, {16, 7, 0, false}, {0, 0, 0, false}, {13, 0, 0, false}, {14, 0, 10, true},
		{1 << 40, 0, 19, true}, {23, 0, 19, true}, {22, 0, 18, true}, {1 << 40, 30, 10, true}, {24, 30, 10, true}, {23, 30, 0, false}, {1 << 40, 31, 0, false}, {1 << 40, 1<<40 - 1, 0, false},
	} {
		if got, ok := hop.Latest(usual(), x.by, x.size); got != x.want || ok != x.ok {
			t.Error(x, got, ok)
		}
	}
	always := usual()
	always.Open, always.Owlt = 0, 0
	if got, ok := hop.Latest(always, 0, 0); got != 0 || !ok {
		t.Error(got, ok)
	}
	always.Room = 0
	if _, ok := hop.Latest(always, 20, 1); ok {
		t.Error("there is no room")
	}
}

// small are many right edges with small numbers.
func small() []api.Edge {
	var l []api.Edge
	for _, open := range []int{0, 1, 4, 7, 8} {
		for _, end := range []int{1, 5, 8} {
			for _, rate := range []int{1, 2, 5} {
				for _, owlt := range []int{0, 1, 3} {
					for _, room := range []int{0, 2, 9} {
						l = append(l, api.Edge{ID: 1, From: 1, To: 2, Open: open, End: end, Rate: rate, Owlt: owlt, Room: room})
					}
				}
			}
		}
	}
	return l
}

// slowPass follows the chapter's words second by second.
func slowPass(e api.Edge, at, size int) (int, int, bool) {
	for at < e.Open {
		at++
	}
	sent, left := at, size
	for left > 0 {
		left -= e.Rate
		at++
	}
	if size > e.Room || sent >= e.End || at > e.End {
		return 0, 0, false
	}
	return sent, at + e.Owlt, true
}

func TestPassAndLatestGoTogetherP10_5(t *testing.T) {
	for _, e := range small() {
		for size := range 11 {
			passes, last := true, 0
			for at := range 10 {
				sent, there, ok := hop.Pass(e, at, size)
				if s, w, o := slowPass(e, at, size); s != sent || w != there || o != ok {
					t.Fatal(e, at, size, sent, there, ok)
				}
				if ok && (!passes || there < last) {
					t.Fatal("who is ready earlier is there no later, and passes", e, at, size)
				}
				if passes = ok; ok {
					last = there
				}
			}
			for by := range 16 {
				want, found := 0, false
				for at := range 16 {
					if _, there, ok := hop.Pass(e, at, size); ok && there <= by {
						want, found = at, true
					}
				}
				if got, ok := hop.Latest(e, by, size); got != want || ok != found {
					t.Fatal(e, by, size, got, ok)
				}
			}
		}
	}
}
