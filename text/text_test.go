package text_test

import (
	"slices"
	"strings"
	"testing"

	"felucca/api"
	"felucca/text"
)

var (
	addRange   = api.Directive{Op: 1, Kind: 2, R: api.Range{From: 1, To: 2, Start: 0, End: 9, Owlt: 4}}
	addContact = api.Directive{Op: 1, Kind: 1, C: api.Contact{ID: 7, From: 1, To: 2, Start: 1, End: 5, Rate: 3}}
	drop       = api.Directive{Op: 2, Kind: 1, C: api.Contact{ID: 7}}
	change     = api.Directive{Op: 3, Kind: 2, R: api.Range{From: 1, To: 2, Owlt: 8}}
)

func TestParseP5_1(t *testing.T) {
	for _, x := range []struct {
		s    string
		want []api.Directive
	}{
		{"", nil}, {"\n", nil}, {" \t\r\n\n# a contact\n", nil},
		{"a range 1 2 0 9 4\n", []api.Directive{addRange}},
		{"d contact 7", []api.Directive{drop}},
		{"\n a\trange  1 2 0 9 4 \r\n# no\n\na contact 7 1 2 1 5 3# yes\nd contact 7\n", []api.Directive{addRange, addContact, drop}},
		{"d contact 7\nd contact 7\n", []api.Directive{drop, drop}},
		{"c range 1 2 0 8\na range 1 2 0 9 4", []api.Directive{change, addRange}},
	} {
		if l, f := text.Parse(x.s); !slices.Equal(l, x.want) || f != (api.Fault{}) {
			t.Errorf("%q: %+v, %+v", x.s, l, f)
		}
	}
}

func TestFaultsP5_1(t *testing.T) {
	for _, x := range []struct {
		s    string
		want api.Fault
	}{
		{"x", api.Fault{Line: 1, Code: api.ErrForm}},
		{"\n\nd contact 7\n#\nd contact 0\nx\n", api.Fault{Line: 5, Code: api.ErrArg}},
		{"d contact 7\nx\nd contact 0\n", api.Fault{Line: 2, Code: api.ErrForm}},
		{"d contact 7\n\n\nd contact 7 #\nd contact #7", api.Fault{Line: 5, Code: api.ErrForm}},
		{"d contact 7\vx", api.Fault{Line: 1, Code: api.ErrForm}},
		{"d contact 1048577\n", api.Fault{Line: 1, Code: api.ErrArg}},
		{"\xff\n", api.Fault{Line: 1, Code: api.ErrForm}},
	} {
		if l, f := text.Parse(x.s); len(l) != 0 || f != x.want {
			t.Errorf("%q: %+v, %+v", x.s, l, f)
		}
	}
}

func TestLinesP5_2(t *testing.T) {
	for _, x := range []struct {
		s    string
		want []int
	}{
		{"", nil}, {"\n\n", nil}, {"#\n \t\r", nil}, {"x", []int{1}}, {"x\n", []int{1}}, {"\nx\n\n# y\n z # \n#", []int{2, 5}},
		{"a\nb\nc", []int{1, 2, 3}}, {"\n\n\n\xff", []int{4}},
	} {
		if l := text.Lines(x.s); !slices.Equal(l, x.want) {
			t.Errorf("%q: %v", x.s, l)
		}
	}
}

func TestPrintP5_3(t *testing.T) {
	for _, x := range []struct {
		l    []api.Directive
		want string
	}{
		{nil, ""}, {[]api.Directive{addRange}, "a range 1 2 0 9 4\n"},
		{[]api.Directive{change, addContact, drop, drop}, "c range 1 2 0 8\na contact 7 1 2 1 5 3\nd contact 7\nd contact 7\n"},
	} {
		if s, ok := text.Print(x.l); s != x.want || !ok {
			t.Errorf("%+v: %q, %v", x.l, s, ok)
		}
	}
	bad := drop
	bad.R.Owlt = 1
	for _, l := range [][]api.Directive{{{}}, {bad}, {addRange, bad}, {bad, addRange}, {addRange, {}, addContact}} {
		if s, ok := text.Print(l); s != "" || ok {
			t.Errorf("%+v: %q, %v", l, s, ok)
		}
	}
}

func TestNothingIsSharedP5_4(t *testing.T) {
	l := append(make([]api.Directive, 0, 4), addRange, drop)
	text.Print(l)
	if !slices.Equal(l[:4], []api.Directive{addRange, drop, {}, {}}) {
		t.Errorf("%+v", l[:4])
	}
	const s = "a range 1 2 0 9 4\nd contact 7\n"
	first, _ := text.Parse(s)
	numbers := text.Lines(s)
	for i := range first[:cap(first)] {
		first[:cap(first)][i] = change
	}
	for i := range numbers[:cap(numbers)] {
		numbers[:cap(numbers)][i] = 99
	}
	if again, _ := text.Parse(s); !slices.Equal(again, []api.Directive{addRange, drop}) {
		t.Errorf("%+v", again)
	}
	if again := text.Lines(s); !slices.Equal(again, []int{1, 2}) {
		t.Errorf("%v", again)
	}
}

func TestReadAsPrintedP5_5(t *testing.T) {
	for _, l := range [][]api.Directive{nil, {addRange}, {drop, drop, change, addContact, addRange}, slices.Repeat([]api.Directive{change, addContact}, 500)} {
		s, _ := text.Print(l)
		if again, f := text.Parse(s); !slices.Equal(again, l) || f != (api.Fault{}) {
			t.Errorf("%q: %+v, %+v", s, again, f)
		}
		if n := text.Lines(s); len(n) != len(l) || len(n) > 0 && n[len(n)-1] != len(l) {
			t.Errorf("%q: %v", s, n)
		}
	}
	for _, s := range []string{"", "#\n", " d\tcontact 7 # x\r\n\n\na range 1 2 0 9 4", strings.Repeat("\nc contact 1 2\n", 99)} {
		l, _ := text.Parse(s)
		u, ok := text.Print(l)
		again, f := text.Parse(u)
		if !ok || !slices.Equal(again, l) || f != (api.Fault{}) || len(l) != len(text.Lines(s)) {
			t.Errorf("%q: %q", s, u)
		}
	}
}
