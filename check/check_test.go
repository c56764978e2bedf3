package check_test

import (
	"testing"

	"felucca/api"
	"felucca/check"
)

func TestNodeP3_1(t *testing.T) {
	for n, want := range map[int]bool{0: false, 1: true, 2: true, 254: true, 255: true, 256: false, -1: false, api.MinInt: false, api.MaxInt: false} {
		if check.Node(n) != want {
			t.Error(n)
		}
	}
}

// The contacts, ranges and bundles below differ from one that may be in one field each.

type field struct {
	name string
	set  func(n int)
	good []int
	bad  []int
}

func tell(t *testing.T, f field, may func() bool) {
	t.Helper()
	for _, n := range f.good {
		if f.set(n); !may() {
			t.Error(f.name, n, "may be")
		}
	}
	for _, n := range f.bad {
		if f.set(n); may() {
			t.Error(f.name, n, "may not be")
		}
	}
}

func TestContactP3_2(t *testing.T) {
	c := api.Contact{ID: 1, From: 1, To: 2, Start: 10, End: 20, Rate: 3}
	for _, f := range []field{
		{"ID", func(n int) { c.ID = n }, []int{1, 2, 1048575, 1048576}, []int{0, -1, 1048577, api.MinInt, api.MaxInt}},
		{"From", func(n int) { c.From = n }, []int{1, 3, 255}, []int{0, 2, -1, 256, api.MinInt, api.MaxInt}},
		{"To", func(n int) { c.To = n }, []int{2, 3, 255}, []int{0, 1, -2, 256, api.MinInt, api.MaxInt}},
		{"Start", func(n int) { c.Start = n }, []int{0, 10, 19}, []int{-1, 20, 21, api.MinInt, api.MaxInt}},
		{"End", func(n int) { c.End = n }, []int{11, 20, 2147483646, 2147483647}, []int{10, 9, 0, -1, 2147483648, api.MinInt, api.MaxInt}},
		{"Rate", func(n int) { c.Rate = n }, []int{1, 3, 2147483646, 2147483647}, []int{0, -1, 2147483648, api.MinInt, api.MaxInt}},
	} {
		was := c
		tell(t, f, func() bool { return check.Contact(c) })
		c = was
	}
	if check.Contact(api.Contact{}) {
		t.Error("a zero one may not be")
	}
}

func TestRangeP3_2(t *testing.T) {
	r := api.Range{From: 1, To: 2, Start: 10, End: 20, Owlt: 3}
	for _, f := range []field{
		{"From", func(n int) { r.From = n }, []int{1, 3, 255}, []int{0, 2, -1, 256, api.MinInt, api.MaxInt}},
		{"To", func(n int) { r.To = n }, []int{2, 3, 255}, []int{0, 1, -2, 256, api.MinInt, api.MaxInt}},
		{"Start", func(n int) { r.Start = n }, []int{0, 10, 19}, []int{-1, 20, 21, api.MinInt, api.MaxInt}},
		{"End", func(n int) { r.End = n }, []int{11, 20, 2147483646, 2147483647}, []int{10, 9, 0, -1, 2147483648, api.MinInt, api.MaxInt}},
		{"Owlt", func(n int) { r.Owlt = n }, []int{0, 1, 2147483646, 2147483647}, []int{-1, 2147483648, api.MinInt, api.MaxInt}},
	} {
		was := r
		tell(t, f, func() bool { return check.Range(r) })
		r = was
	}
	if check.Range(api.Range{}) {
		t.Error("a zero one may not be")
	}
}

func TestBundleP3_3(t *testing.T) {
	b := api.Bundle{From: 1, To: 2, Size: 7, Class: 1, Deadline: 30}
	for _, f := range []field{
		{"From", func(n int) { b.From = n }, []int{1, 2, 3, 255}, []int{0, -1, 256, api.MinInt, api.MaxInt}},
		{"To", func(n int) { b.To = n }, []int{1, 2, 3, 255}, []int{0, -1, 256, api.MinInt, api.MaxInt}},
		{"Size", func(n int) { b.Size = n }, []int{0, 1, 1099511627775}, []int{-1, 1099511627776, api.MinInt, api.MaxInt}},
		{"Class", func(n int) { b.Class = n }, []int{0, 1, 2}, []int{-1, 3, api.MinInt, api.MaxInt}},
		{"Deadline", func(n int) { b.Deadline = n }, []int{0, 1, 1099511627775, 1099511627776}, []int{-1, 1099511627777, api.MinInt, api.MaxInt}},
	} {
		was := b
		tell(t, f, func() bool { return check.Bundle(b) })
		b = was
	}
	if !check.Bundle(api.Bundle{From: 255, To: 255}) {
		t.Error("from a node to itself may be")
	}
	if check.Bundle(api.Bundle{}) {
		t.Error("a zero one may not be")
	}
}

func TestVolumeP3_4(t *testing.T) {
	for _, x := range []struct {
		c    api.Contact
		want int
	}{
		{api.Contact{ID: 1, From: 1, To: 2, Start: 10, End: 20, Rate: 3}, 30},
		{api.Contact{ID: 1, From: 1, To: 2, Start: 0, End: 1, Rate: 1}, 1},
		{api.Contact{ID: 1, From: 1, To: 2, Start: 0, End: 2147483647, Rate: 2147483647}, 2147483647 * 2147483647},
		{api.Contact{ID: 0, From: 1, To: 2, Start: 10, End: 20, Rate: 3}, 0},
		{api.Contact{ID: 1, From: 1, To: 1, Start: 10, End: 20, Rate: 3}, 0},
		{api.Contact{ID: 1, From: 1, To: 2, Start: 20, End: 10, Rate: 3}, 0},
		{api.Contact{ID: 1, From: 1, To: 2, Start: 10, End: 20, Rate: -3}, 0},
		{api.Contact{ID: 1, From: 1, To: 2, Start: 0, End: api.MaxInt, Rate: 3}, 0},
		{api.Contact{}, 0},
	} {
		if got := check.Volume(x.c); got != x.want {
			t.Error(x.c, got)
		}
	}
}

func TestVolumesAreInBoundsP3_5(t *testing.T) {
	for _, start := range []int{0, 1, 9, 2147483645, 2147483646} {
		for _, end := range []int{1, 2, 10, 2147483646, 2147483647} {
			for _, rate := range []int{1, 2, 2147483646, 2147483647} {
				c := api.Contact{ID: 1, From: 1, To: 2, Start: start, End: end, Rate: rate}
				v := check.Volume(c)
				if check.Contact(c) != (v > 0) || v < 0 || v >= 1<<62 || v > 0 && v/rate != end-start {
					t.Error(c, v)
				}
			}
		}
	}
}
