package direct_test

import (
	"slices"
	"strings"
	"testing"

	"felucca/api"
	"felucca/direct"
)

type written struct {
	d    api.Directive
	text string
}

// samples are right directives, with their words.
func samples() []written {
	contact := func(op int, c api.Contact) api.Directive { return api.Directive{Op: op, Kind: 1, C: c} }
	span := func(op int, r api.Range) api.Directive { return api.Directive{Op: op, Kind: 2, R: r} }
	return []written{
		{contact(1, api.Contact{ID: 7, From: 1, To: 2, Start: 10, End: 20, Rate: 3}), "a contact 7 1 2 10 20 3"},
		{contact(1, api.Contact{ID: 1048576, From: 255, To: 254, Start: 2147483646, End: 2147483647, Rate: 2147483647}), "a contact 1048576 255 254 2147483646 2147483647 2147483647"},
		{contact(1, api.Contact{ID: 1, From: 1, To: 2, Start: 0, End: 1, Rate: 1}), "a contact 1 1 2 0 1 1"},
		{contact(2, api.Contact{ID: 7}), "d contact 7"},
		{contact(2, api.Contact{ID: 1048576}), "d contact 1048576"},
		{contact(3, api.Contact{ID: 1, Rate: 1}), "c contact 1 1"},
		{contact(3, api.Contact{ID: 1048576, Rate: 2147483647}), "c contact 1048576 2147483647"},
		{span(1, api.Range{From: 1, To: 2, Start: 10, End: 20, Owlt: 3}), "a range 1 2 10 20 3"},
		{span(1, api.Range{From: 255, To: 1, Start: 0, End: 1, Owlt: 0}), "a range 255 1 0 1 0"},
		{span(1, api.Range{From: 2, To: 255, Start: 0, End: 2147483647, Owlt: 2147483647}), "a range 2 255 0 2147483647 2147483647"},
		{span(2, api.Range{From: 1, To: 2, Start: 0}), "d range 1 2 0"},
		{span(2, api.Range{From: 255, To: 2, Start: 2147483646}), "d range 255 2 2147483646"},
		{span(3, api.Range{From: 1, To: 2, Start: 0, Owlt: 0}), "c range 1 2 0 0"},
		{span(3, api.Range{From: 1, To: 255, Start: 2147483646, Owlt: 2147483647}), "c range 1 255 2147483646 2147483647"},
	}
}

func TestRightAndWordsP4_1(t *testing.T) {
	for _, x := range samples() {
		if !direct.Right(x.d) {
			t.Errorf("%+v is right", x.d)
		}
		if l, ok := direct.Words(x.d); !ok || !slices.Equal(l, strings.Fields(x.text)) {
			t.Errorf("%+v: %q, %v", x.d, l, ok)
		}
	}
}

// fields are all numbers of a directive.
func fields(d *api.Directive) []*int {
	return []*int{&d.Op, &d.Kind, &d.C.ID, &d.C.From, &d.C.To, &d.C.Start, &d.C.End, &d.C.Rate, &d.R.From, &d.R.To, &d.R.Start, &d.R.End, &d.R.Owlt}
}

func wrong(t *testing.T, d api.Directive) {
	t.Helper()
	if direct.Right(d) {
		t.Errorf("%+v is not right", d)
	}
	if l, ok := direct.Words(d); ok || len(l) != 0 {
		t.Errorf("%+v: %q, %v", d, l, ok)
	}
}

func TestNotNamedIsZeroP4_1(t *testing.T) {
	named := map[[2]int]string{{1, 1}: "2 3 4 5 6 7", {2, 1}: "2", {3, 1}: "2 7", {1, 2}: "8 9 10 11 12", {2, 2}: "8 9 10", {3, 2}: "8 9 10 12"}
	for _, x := range samples() {
		places := strings.Fields("0 1 " + named[[2]int{x.d.Op, x.d.Kind}])
		for i := range fields(&x.d) {
			d := x.d
			if slices.Contains(places, []string{"0", "1", "2", "3", "4", "5", "6", "7", "8", "9", "10", "11", "12"}[i]) {
				continue
			}
			for _, n := range []int{1, -1, 9} {
				*fields(&d)[i] = n
				wrong(t, d)
			}
		}
	}
}

func TestOutOfBoundsP4_1(t *testing.T) {
	wrong(t, api.Directive{})
	for _, x := range samples() {
		for i := range fields(&x.d) {
			for _, n := range []int{-1, api.MinInt, api.MaxInt, 1 << 31} {
				d := x.d
				*fields(&d)[i] = n
				wrong(t, d)
			}
		}
	}
	for _, d := range []api.Directive{
		{Op: 0, Kind: 1, C: api.Contact{ID: 7}}, {Op: 4, Kind: 1, C: api.Contact{ID: 7}},
		{Op: 2, Kind: 0, C: api.Contact{ID: 7}}, {Op: 2, Kind: 3, C: api.Contact{ID: 7}},
		{Op: 2, Kind: 1}, {Op: 2, Kind: 1, C: api.Contact{ID: 1048577}},
		{Op: 3, Kind: 1, C: api.Contact{ID: 7}}, {Op: 3, Kind: 1, C: api.Contact{Rate: 7}}, {Op: 3, Kind: 1, C: api.Contact{ID: 1048577, Rate: 1}},
		{Op: 1, Kind: 1, C: api.Contact{ID: 7, From: 1, To: 1, Start: 10, End: 20, Rate: 3}},
		{Op: 1, Kind: 1, C: api.Contact{ID: 7, From: 1, To: 2, Start: 20, End: 20, Rate: 3}},
		{Op: 1, Kind: 2, R: api.Range{From: 1, To: 256, Start: 10, End: 20}}, {Op: 1, Kind: 2, R: api.Range{From: 1, To: 2, Start: 10, End: 10}},
		{Op: 2, Kind: 2}, {Op: 2, Kind: 2, R: api.Range{From: 1, To: 1}}, {Op: 2, Kind: 2, R: api.Range{From: 0, To: 1}},
		{Op: 2, Kind: 2, R: api.Range{From: 1, To: 256}}, {Op: 2, Kind: 2, R: api.Range{From: 1, To: 2, Start: 2147483647}},
		{Op: 3, Kind: 2, R: api.Range{From: 1, To: 1}}, {Op: 3, Kind: 2, R: api.Range{From: 1, To: 2, Start: 2147483647}},
		{Op: 3, Kind: 2, R: api.Range{From: 256, To: 2}}, {Op: 3, Kind: 2, R: api.Range{From: 1}},
	} {
		wrong(t, d)
	}
}

func parse(t *testing.T, l []string, want api.Directive, code api.Errno) {
	t.Helper()
	if d, e := direct.Parse(l); d != want || e != code {
		t.Errorf("%q: %+v, %d", l, d, e)
	}
}

func TestParseP4_2(t *testing.T) {
	for _, x := range samples() {
		parse(t, strings.Fields(x.text), x.d, api.OK)
	}
}

func TestParseErrFormP4_2(t *testing.T) {
	parse(t, nil, api.Directive{}, api.ErrForm)
	for _, s := range []string{
		"a", "d", "contact", "a contact", "d contact", "d range", "a contact 7 1 2 10 20", "a contact 7 1 2 10 20 3 4", "a range 1 2 10 20", "a range 1 2 10 20 3 4",
		"d contact 7 8", "c contact 7", "c contact 7 8 9", "d range 1 2", "d range 1 2 3 4", "c range 1 2 3", "c range 1 2 3 4 5",
		"b contact 7", "A contact 7 1 2 10 20 3", "D contact 7", "d Contact 7", "d contacts 7", "d rang 1 2 0", "contact d 7", "add contact 7 1 2 10 20 3",
		"d contact x", "d contact 07", "d contact -7", "d contact +7", "d contact 2147483648", "d contact 99999999999999999999", "d contact 0x7",
		"a contact 7 1 2 10 20 3x", "a contact 07 1 2 10 20 3", "a range 1 2 10 2147483648 3", "c range 1 2 0 2147483648", "d range 1 2 -0", "c contact 0 x", "d contact d",
	} {
		parse(t, strings.Fields(s), api.Directive{}, api.ErrForm)
	}
	for _, l := range [][]string{{"d", "contact", ""}, {"d", "contact", " 7"}, {"d", "contact", "7 "}, {"", "contact", "7"}, {"d", "", "7"}, {"", ""}, {"", "", "7"}, {"d ", "contact", "7"}, {"d contact", "7"}, {"d", "contact", "\u0667"}} {
		parse(t, l, api.Directive{}, api.ErrForm)
	}
}

func TestParseErrArgP4_2(t *testing.T) {
	for _, s := range []string{
		"d contact 0", "d contact 1048577", "d contact 2147483647", "c contact 0 1", "c contact 1 0", "c contact 1048577 1",
		"a contact 0 1 2 10 20 3", "a contact 1048577 1 2 10 20 3", "a contact 7 0 2 10 20 3", "a contact 7 256 2 10 20 3", "a contact 7 1 1 10 20 3",
		"a contact 7 1 0 10 20 3", "a contact 7 1 256 10 20 3", "a contact 7 1 2 20 20 3", "a contact 7 1 2 21 20 3", "a contact 7 1 2 2147483647 2147483647 3", "a contact 7 1 2 10 20 0",
		"a range 0 2 10 20 3", "a range 1 1 10 20 3", "a range 1 256 10 20 3", "a range 1 2 20 20 3",
		"d range 1 1 0", "d range 0 1 0", "d range 1 256 0", "d range 1 2 2147483647", "c range 1 1 0 0", "c range 0 2 0 0", "c range 1 2 2147483647 0",
	} {
		parse(t, strings.Fields(s), api.Directive{}, api.ErrArg)
	}
}

func TestNothingIsSharedP4_3(t *testing.T) {
	for _, x := range samples() {
		l, _ := direct.Words(x.d)
		for i := range l[:cap(l)] {
			l[:cap(l)][i] = "z"
		}
		again, _ := direct.Words(x.d)
		if !slices.Equal(again, strings.Fields(x.text)) {
			t.Errorf("%q: %q", x.text, again)
		}
		long := append(strings.Fields(x.text), "1", "2", "x")
		was := slices.Clone(long)
		direct.Parse(long[:len(long)-3])
		if !slices.Equal(long, was) {
			t.Errorf("%q", long)
		}
	}
}

func TestEachOthersP4_4(t *testing.T) {
	values := []int{0, 1, 2, 255, 256, 1 << 20, 1<<31 - 2, 1<<31 - 1, 1 << 31, -1}
	for _, x := range samples() {
		for i := range fields(&x.d) {
			for _, n := range values {
				d := x.d
				*fields(&d)[i] = n
				l, ok := direct.Words(d)
				if ok != direct.Right(d) {
					t.Errorf("%+v: %v", d, ok)
				}
				if ok {
					parse(t, l, d, api.OK)
				}
			}
		}
	}
}
