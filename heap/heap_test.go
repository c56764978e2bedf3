package heap_test

import (
	"slices"
	"testing"

	"felucca/api"
	"felucca/heap"
	"felucca/trial"
)

func compare(a, b api.Ready) int {
	if a.At < b.At || a.At == b.At && a.Node < b.Node {
		return -1
	}
	if a == b {
		return 0
	}
	return 1
}

// empty pops all, and holds each pop to Peek and Len.
func empty(t *testing.T, h *heap.Heap) []api.Ready {
	t.Helper()
	var l []api.Ready
	for n := h.Len(); n > 0; n-- {
		first, seen := h.Peek()
		r, ok := h.Pop()
		if !ok || !seen || first != r || h.Len() != n-1 {
			t.Fatal(first, seen, r, ok, h.Len())
		}
		l = append(l, r)
	}
	if r, ok := h.Peek(); ok || r != (api.Ready{}) || h.Len() != 0 {
		t.Error("Peek of none", r, ok)
	}
	if r, ok := h.Pop(); ok || r != (api.Ready{}) || h.Len() != 0 {
		t.Error("Pop of none", r, ok)
	}
	return l
}

func TestNewP14_1(t *testing.T) {
	for n := range 20 {
		var l []api.Ready
		for i := range n {
			l = append(l, api.Ready{Node: i * 7 % 5, At: i * 11 % 6})
		}
		h := heap.New(l...)
		if h.Len() != n {
			t.Error(n, h.Len())
		}
		slices.SortFunc(l, compare)
		if got := empty(t, h); !slices.Equal(got, l) {
			t.Error(n, got)
		}
	}
}

func TestPushP14_1(t *testing.T) {
	h := heap.New()
	for i := range 9 {
		if h.Len() != i {
			t.Error(i, h.Len())
		}
		h.Push(api.Ready{Node: 4, At: 4})
	}
	if got := empty(t, h); !slices.Equal(got, slices.Repeat([]api.Ready{{Node: 4, At: 4}}, 9)) {
		t.Error("those that are alike are all there", got)
	}
	h.Push(api.Ready{Node: 1, At: 2})
	if r, ok := h.Peek(); !ok || r != (api.Ready{Node: 1, At: 2}) || h.Len() != 1 {
		t.Error("a heap goes on when it was empty", r, ok)
	}
}

func TestTheLeastP14_2(t *testing.T) {
	h := heap.New(api.Ready{Node: 5, At: 9}, api.Ready{Node: 2, At: 7}, api.Ready{Node: 1, At: 9})
	if got := empty(t, h); !slices.Equal(got, []api.Ready{{Node: 2, At: 7}, {Node: 1, At: 9}, {Node: 5, At: 9}}) {
		t.Error(got)
	}
	far := []api.Ready{{Node: 3, At: api.MinInt}, {Node: api.MinInt, At: -1}, {Node: api.MaxInt, At: -1}, {Node: -1, At: 0}, {Node: 0, At: 0}, {Node: api.MinInt, At: api.MaxInt}}
	for i := range far {
		h := heap.New(slices.Concat(far[i:], far[:i])...)
		if got := empty(t, h); !slices.Equal(got, far) {
			t.Error(got)
		}
	}
	zero := heap.New(api.Ready{})
	if r, ok := zero.Pop(); !ok || r != (api.Ready{}) {
		t.Error("a zero one is one", r, ok)
	}
}

func TestNothingIsSharedP14_3(t *testing.T) {
	was := []api.Ready{{Node: 3, At: 3}, {Node: 1, At: 1}, {Node: 2, At: 2}, {Node: 9, At: -9}}
	l := slices.Clone(was)
	h := heap.New(l[:3]...)
	h.Push(api.Ready{Node: 0, At: 0})
	if !slices.Equal(l, was) {
		t.Error("what was handed in changed", l)
	}
	for i := range l {
		l[i] = api.Ready{Node: -8, At: -8}
	}
	if got := empty(t, h); !slices.Equal(got, []api.Ready{{Node: 0, At: 0}, was[1], was[2], was[0]}) {
		t.Error("what was handed in was kept", got)
	}
}

func TestMixedP14_4(t *testing.T) {
	d := &trial.Dice{Seed: 14}
	h := heap.New()
	var model []api.Ready
	for range 5000 {
		if d.Throw(5) < 3 {
			r := api.Ready{Node: d.Throw(4), At: d.Throw(50)}
			h.Push(r)
			model = append(model, r)
		} else {
			r, ok := h.Pop()
			if ok != (len(model) > 0) {
				t.Fatal(r, ok)
			}
			if ok {
				slices.SortFunc(model, compare)
				if r != model[0] {
					t.Fatal(r, model[0])
				}
				model = model[1:]
			}
		}
		if h.Len() != len(model) {
			t.Fatal(h.Len(), len(model))
		}
	}
	got := empty(t, h)
	if len(got) < 100 || !slices.IsSortedFunc(got, compare) {
		t.Error("what is popped rises", len(got))
	}
}
