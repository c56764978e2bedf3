package script_test

import (
	"slices"
	"testing"

	"felucca/api"
	"felucca/script"
	"felucca/trial"
)

func TestDirectiveP25_1(t *testing.T) {
	contact := func(op int, c api.Contact) api.Directive { return api.Directive{Op: op, Kind: api.KindContact, C: c} }
	span := func(op int, r api.Range) api.Directive { return api.Directive{Op: op, Kind: api.KindRange, R: r} }
	for _, x := range []struct {
		x    [10]byte
		want api.Directive
	}{
		{[10]byte{}, contact(api.OpAdd, api.Contact{ID: 1, From: 1, To: 1, Start: 0, End: 1, Rate: 1})},
		{[10]byte{99, 0, 15, 3, 2, 63, 63, 3, 99, 99}, contact(api.OpAdd, api.Contact{ID: 16, From: 4, To: 3, Start: 63, End: 127, Rate: 4})},
		{[10]byte{1, 1, 16, 4, 5, 64, 64, 4, 0, 0}, contact(api.OpAdd, api.Contact{ID: 1, From: 1, To: 2, Start: 0, End: 1, Rate: 1})},
		{[10]byte{0, 6, 255, 255, 254, 200, 130, 255, 0, 0}, contact(api.OpAdd, api.Contact{ID: 16, From: 4, To: 3, Start: 8, End: 11, Rate: 4})},
		{[10]byte{0, 253, 33, 6, 7, 70, 71, 9, 0, 0}, contact(api.OpAdd, api.Contact{ID: 2, From: 3, To: 4, Start: 6, End: 14, Rate: 2})},
		{[10]byte{0, 2, 9, 1, 2, 255, 7, 9, 9, 9}, span(api.OpAdd, api.Range{From: 2, To: 3, End: 256, Owlt: 7})},
		{[10]byte{0, 8, 9, 5, 7, 0, 8, 9, 9, 9}, span(api.OpAdd, api.Range{From: 2, To: 4, End: 1, Owlt: 0})},
		{[10]byte{0, 254, 9, 255, 255, 70, 255, 9, 9, 9}, span(api.OpAdd, api.Range{From: 4, To: 4, End: 71, Owlt: 7})},
		{[10]byte{0, 3, 31, 9, 9, 9, 9, 9, 9, 9}, contact(api.OpDelete, api.Contact{ID: 16})}, {[10]byte{0, 255, 0, 9, 9, 9, 9, 9, 9, 9}, contact(api.OpDelete, api.Contact{ID: 1})},
		{[10]byte{0, 4, 5, 9, 9, 9, 9, 6, 9, 9}, contact(api.OpChange, api.Contact{ID: 6, Rate: 3})}, {[10]byte{0, 250, 18, 9, 9, 9, 9, 8, 9, 9}, contact(api.OpChange, api.Contact{ID: 3, Rate: 1})},
		{[10]byte{0, 5, 9, 2, 3, 9, 9, 9, 9, 9}, span(api.OpDelete, api.Range{From: 3, To: 4})}, {[10]byte{0, 251, 9, 9, 9, 9, 9, 9, 9, 9}, span(api.OpDelete, api.Range{From: 2, To: 2})},
	} {
		if got := script.Directive(x.x); got != x.want {
			t.Errorf("%v: %+v", x.x, got)
		}
	}
}

func same(a, b api.Act) bool {
	return a.Do == b.Do && a.Text == b.Text && a.D == b.D && a.N == b.N && slices.Equal(a.IDs, b.IDs) && a.Class == b.Class && a.Size == b.Size && a.B == b.B
}

func TestActsP25_2(t *testing.T) {
	for _, x := range []struct {
		x    [10]byte
		want api.Act
	}{
		{[10]byte{0, 0, 6, 0, 1, 10, 9, 2, 0, 0}, api.Act{Do: api.DoLoad, Text: "a contact 7 1 2 10 20 3\n"}},
		{[10]byte{7, 0, 6, 0, 1, 10, 9, 2, 1, 0}, api.Act{Do: api.DoLoad, Text: "a contact 7 1 2 10 20 3\na contact 7 1 2 10 20 3\n"}},
		{[10]byte{252, 2, 0, 1, 0, 89, 4, 0, 254, 1}, api.Act{Do: api.DoLoad, Text: "a range 2 1 0 90 4\n"}}, {[10]byte{0, 3, 6, 0, 1, 10, 9, 2, 255, 0}, api.Act{Do: api.DoLoad, Text: "d contact 7\nd contact 7\n"}},
		{[10]byte{0, 0, 6, 0, 0, 10, 9, 2, 0, 0}, api.Act{Do: api.DoLoad, Text: "x\n"}}, {[10]byte{0, 5, 6, 3, 3, 10, 9, 2, 1, 0}, api.Act{Do: api.DoLoad, Text: "x\n"}},
		{[10]byte{1, 4, 5, 9, 9, 9, 9, 6, 9, 9}, api.Act{Do: api.DoEdit, D: api.Directive{Op: api.OpChange, Kind: api.KindContact, C: api.Contact{ID: 6, Rate: 3}}}},
		{[10]byte{8, 0, 6, 0, 0, 10, 9, 2, 0, 0}, api.Act{Do: api.DoEdit, D: api.Directive{Op: api.OpAdd, Kind: api.KindContact, C: api.Contact{ID: 7, From: 1, To: 1, Start: 10, End: 20, Rate: 3}}}},
		{[10]byte{2, 20}, api.Act{Do: api.DoAdvance, N: 20}}, {[10]byte{9, 255, 9, 9, 9, 9, 9, 9, 9, 9}, api.Act{Do: api.DoAdvance, N: 255}},
		{[10]byte{3, 4, 0, 9, 2, 77, 9, 9, 9, 9}, api.Act{Do: api.DoBook, IDs: []int{5}, Class: 2, Size: 77}}, {[10]byte{10, 31, 1, 31, 3, 255, 9, 9, 9, 9}, api.Act{Do: api.DoBook, IDs: []int{16, 16}, Class: 3, Size: 255}},
		{[10]byte{4, 16, 255, 17, 5, 0, 9, 9, 9, 9}, api.Act{Do: api.DoRelease, IDs: []int{1, 2}, Class: 1}}, {[10]byte{4, 16, 2, 17, 4, 9, 9, 9, 9, 9}, api.Act{Do: api.DoRelease, IDs: []int{1}, Size: 9}},
		{[10]byte{5, 5, 2, 255, 2, 255, 9, 9, 9, 9}, api.Act{Do: api.DoRoute, B: api.Bundle{From: 2, To: 3, Size: 255, Class: 2, Deadline: 1020}}},
		{[10]byte{12, 3, 7, 0, 255, 1, 9, 9, 9, 9}, api.Act{Do: api.DoRoute, B: api.Bundle{From: 4, To: 4, Deadline: 4}}},
		{[10]byte{6, 5, 2, 19, 2, 255, 9, 9, 9, 9}, api.Act{Do: api.DoList, B: api.Bundle{From: 2, To: 3}, N: 9}}, {[10]byte{13, 4, 3, 10, 2, 255, 9, 9, 9, 9}, api.Act{Do: api.DoList, B: api.Bundle{From: 1, To: 4}}},
		{[10]byte{6, 3, 4, 1}, api.Act{Do: api.DoList, B: api.Bundle{From: 4, To: 1}, N: 1}}, {[10]byte{5, 4, 4, 1, 3, 2}, api.Act{Do: api.DoRoute, B: api.Bundle{From: 1, To: 1, Size: 1, Deadline: 8}}},
	} {
		got, left := script.Acts(x.x[:])
		if len(got) != 1 || left != 0 || !same(got[0], x.want) {
			t.Errorf("%v: %+v, %d", x.x, got, left)
		}
	}
	for n := range 45 {
		got, left := script.Acts(make([]byte, n))
		if len(got) != n/10 || left != n%10 {
			t.Error(n, len(got), left)
		}
	}
	if got, left := script.Acts(nil); len(got) != 0 || left != 0 {
		t.Error(got, left)
	}
}

// full is an act that has something in each field.
func full() api.Act {
	return api.Act{Do: 3, Text: "t", D: api.Directive{Op: 1, Kind: 2}, N: 4, IDs: []int{5, 6}, Class: 7, Size: 8, B: api.Bundle{From: 9}}
}

func TestSameP25_3(t *testing.T) {
	if !script.Same(nil, []api.Act{}) || !script.Same([]api.Act{full(), {}}, []api.Act{full(), {IDs: []int{}}}) {
		t.Error("the same")
	}
	if script.Same([]api.Act{full()}, []api.Act{full(), full()}) || script.Same([]api.Act{{}}, nil) {
		t.Error("one is longer")
	}
	for i, set := range []func(a *api.Act){
		func(a *api.Act) { a.Do++ }, func(a *api.Act) { a.Text = "u" }, func(a *api.Act) { a.D.Op++ }, func(a *api.Act) { a.D.Kind++ }, func(a *api.Act) { a.D.C.Rate++ }, func(a *api.Act) { a.D.R.Owlt++ },
		func(a *api.Act) { a.N++ }, func(a *api.Act) { a.IDs = a.IDs[:1] }, func(a *api.Act) { a.IDs[1]++ }, func(a *api.Act) { a.Class++ }, func(a *api.Act) { a.Size++ },
		func(a *api.Act) { a.B.From++ }, func(a *api.Act) { a.B.Deadline++ }, func(a *api.Act) { a.B.Class++ },
	} {
		a := full()
		if set(&a); script.Same([]api.Act{full(), a}, []api.Act{full(), full()}) {
			t.Error(i, a)
		}
	}
}

func TestCountP25_3(t *testing.T) {
	l := []api.Act{{Do: 1}, {Do: 3}, {Do: 3, N: 7}, {Do: -5}, {}}
	for do, want := range map[int]int{1: 1, 3: 2, -5: 1, 0: 1, 2: 0, api.MaxInt: 0} {
		if n := script.Count(l, do); n != want {
			t.Error(do, n)
		}
	}
	if script.Count(nil, 0) != 0 {
		t.Error("none")
	}
}

// bytes are so many bytes, of all kinds.
func bytes(d *trial.Dice, n int) []byte {
	b := make([]byte, n)
	for i := range b {
		b[i] = byte(d.Throw(256))
	}
	return b
}

func TestNothingIsSharedP25_4(t *testing.T) {
	b := bytes(&trial.Dice{Seed: 25}, 1007)
	was := slices.Clone(b)
	l, _ := script.Acts(b[:1003])
	if !slices.Equal(b, was) {
		t.Error("what was handed in changed")
	}
	clear(b)
	again, _ := script.Acts(was[:1003])
	if !script.Same(l, again) {
		t.Error("what was handed in was kept")
	}
	for i := range l {
		for j := range l[i].IDs[:cap(l[i].IDs)] {
			l[i].IDs[:cap(l[i].IDs)][j] = -8
		}
	}
	if third, _ := script.Acts(was[:1003]); !script.Same(again, third) {
		t.Error("two answers share their memory")
	}
}

func TestBothP25_5(t *testing.T) {
	d := &trial.Dice{Seed: 255}
	for range 200 {
		a, b := bytes(d, 10*d.Throw(9)), bytes(d, d.Throw(60))
		first, left := script.Acts(a)
		second, end := script.Acts(b)
		both, left2 := script.Acts(slices.Concat(a, b))
		if left != 0 || left2 != end || !script.Same(both, slices.Concat(first, second)) {
			t.Fatal(a, b)
		}
		n := 0
		for do := range 9 {
			n += script.Count(both, do)
		}
		if n != len(both) || script.Count(both, 0) != 0 || script.Count(both, 8) != 0 {
			t.Fatal(n)
		}
	}
}
