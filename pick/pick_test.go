package pick_test

import (
	"cmp"
	"math"
	"slices"
	"testing"

	"corbel/pick"
)

// full is a heap of these, put one behind the other.
func full(l ...pick.Item) *pick.Heap {
	h := pick.New()
	for _, x := range l {
		h.Put(x.ID, x.Key)
	}
	return h
}

// sorted is l in the order of 2.1, found by a sort that is none of the program's.
func sorted(l []pick.Item) []pick.Item {
	l = slices.Clone(l)
	slices.SortFunc(l, func(a, b pick.Item) int {
		if a.Key == b.Key {
			return cmp.Compare(a.ID, b.ID)
		}
		return cmp.Compare(a.Key, b.Key)
	})
	return l
}

// holds checks that h has just these items, by every call that changes nothing.
func holds(t *testing.T, what string, h *pick.Heap, l []pick.Item) {
	t.Helper()
	want := sorted(l)
	for range 2 {
		if got := h.All(); !slices.Equal(got, want) {
			t.Fatalf("2.1: %s: All: %v, not %v", what, got, want)
		}
		if got := h.Len(); got != len(want) {
			t.Fatalf("2.1: %s: Len: %d, not %d", what, got, len(want))
		}
	}
	for _, x := range want {
		if key, ok := h.Key(x.ID); !ok || key != x.Key {
			t.Fatalf("2.1: %s: Key(%d): %d %v, not %d", what, x.ID, key, ok, x.Key)
		}
	}
	var first pick.Item
	if len(want) > 0 {
		first = want[0]
	}
	if x, ok := h.Peek(); x != first || ok != (len(want) > 0) {
		t.Fatalf("2.1: %s: Peek: %v %v, not %v", what, x, ok, first)
	}
}

// drains pops all of h, and checks that these items come, and none behind them.
func drains(t *testing.T, what string, h *pick.Heap, l []pick.Item) {
	t.Helper()
	want := sorted(l)
	for n, x := range want {
		holds(t, what, h, want[n:])
		if got, ok := h.Pop(); !ok || got != x {
			t.Fatalf("2.1: %s: Pop: %v %v, not %v", what, got, ok, x)
		}
		if key, ok := h.Key(x.ID); ok || key != 0 {
			t.Fatalf("2.1: %s: Key(%d) behind its Pop: %d", what, x.ID, key)
		}
	}
	none(t, what, h)
}

// none checks that h has nothing.
func none(t *testing.T, what string, h *pick.Heap) {
	t.Helper()
	holds(t, what, h, nil)
	if x, ok := h.Pop(); ok || x != (pick.Item{}) {
		t.Fatalf("2.1: %s: Pop of none: %v %v", what, x, ok)
	}
	for _, id := range []int{0, 1, -1, math.MinInt, math.MaxInt} {
		if h.Drop(id) {
			t.Fatalf("2.1: %s: Drop(%d) of none", what, id)
		}
		if key, ok := h.Key(id); ok || key != 0 {
			t.Fatalf("2.1: %s: Key(%d) of none: %d %v", what, id, key, ok)
		}
	}
	holds(t, what, h, nil)
}

func TestExample(t *testing.T) {
	h := pick.New()
	for n, c := range []struct {
		id, key int
		is      bool
	}{{5, 2, true}, {3, 2, true}, {9, 1, true}, {9, 7, false}} {
		if h.Put(c.id, c.key) != c.is {
			t.Errorf("2.1: Put %d: not %v", n, c.is)
		}
	}
	for _, id := range []int{3, 5, 9} {
		if x, ok := h.Pop(); !ok || x.ID != id {
			t.Errorf("2.1: Pop: %v, not %d", x, id)
		}
	}
	none(t, "the example's end", h)
}

func TestNone(t *testing.T) {
	h := pick.New()
	none(t, "a new one", h)
	h.Put(0, 0)
	holds(t, "an item of zeros", h, []pick.Item{{}})
	if !h.Drop(0) {
		t.Error("2.1: Drop of the only one")
	}
	none(t, "the only one dropped", h)
	h.Put(7, -3)
	drains(t, "filled again", h, []pick.Item{{ID: 7, Key: -3}})
	h.Put(8, 4)
	drains(t, "filled a third time", h, []pick.Item{{ID: 8, Key: 4}})
}

// orders calls f with each order of the numbers below n.
func orders(n int, f func([]int)) {
	var place func(l, rest []int)
	place = func(l, rest []int) {
		if len(rest) == 0 {
			f(l)
		}
		for k, x := range rest {
			place(append(slices.Clone(l), x), slices.Delete(slices.Clone(rest), k, k+1))
		}
	}
	var all []int
	for k := range n {
		all = append(all, k)
	}
	place(nil, all)
}

// TestOrder: what comes first hangs on keys and IDs, not on when they were put.
func TestOrder(t *testing.T) {
	items := []pick.Item{{ID: 4, Key: 0}, {ID: -2, Key: 1}, {ID: 0, Key: 1}, {ID: 11, Key: 1}, {ID: -9, Key: 2}, {ID: 1, Key: -5}}
	orders(len(items), func(l []int) {
		h := pick.New()
		for _, k := range l {
			if !h.Put(items[k].ID, items[k].Key) {
				t.Fatalf("2.1: Put of a new one: %v", items[k])
			}
		}
		drains(t, "an order", h, items)
	})
}

// TestAnew: whichever item is given whichever key, it stands where that puts it.
func TestAnew(t *testing.T) {
	for n := 1; n < 12; n++ {
		for at := range n {
			for key := -1; key <= 2*n; key++ {
				h := pick.New()
				var l []pick.Item
				for k := range n {
					x := pick.Item{ID: k * 5 % 11, Key: 2*(k*7%11) - 1}
					l = append(l, x)
					h.Put(x.ID, x.Key)
				}
				l[at].Key = key
				if h.Put(l[at].ID, key) {
					t.Fatalf("2.1: Put of %d anew: true", l[at].ID)
				}
				drains(t, "a key put anew", h, l)
			}
		}
	}
}

// TestAnewTwice: lower, the same, higher, and back.
func TestAnewTwice(t *testing.T) {
	l := []pick.Item{{ID: 1, Key: 10}, {ID: 2, Key: 20}, {ID: 3, Key: 30}, {ID: 4, Key: 40}}
	h := full(l...)
	for _, key := range []int{5, 5, 20, 40, 99, 99, 30, -1, 30} {
		if h.Put(3, key) {
			t.Fatalf("2.1: Put(3, %d): true", key)
		}
		l[2].Key = key
		holds(t, "put anew", h, l)
	}
	drains(t, "as it was", h, l)
}

// TestDrop: whichever item is dropped, the others stand; put again, it is new.
func TestDrop(t *testing.T) {
	for n := 1; n < 16; n++ {
		for at := range n {
			h := pick.New()
			var l []pick.Item
			for k := range n {
				l = append(l, pick.Item{ID: k * 7 % 16, Key: k * 5 % 6})
				h.Put(l[k].ID, l[k].Key)
			}
			x, rest := l[at], slices.Delete(slices.Clone(l), at, at+1)
			if !h.Drop(x.ID) {
				t.Fatalf("2.1: Drop(%d): false", x.ID)
			}
			holds(t, "one dropped", h, rest)
			if h.Drop(x.ID) {
				t.Fatalf("2.1: Drop(%d) twice", x.ID)
			}
			if key, ok := h.Key(x.ID); ok || key != 0 {
				t.Fatalf("2.1: Key(%d) behind its Drop: %d", x.ID, key)
			}
			holds(t, "one dropped twice", h, rest)
			x.Key = (x.Key + at) % 6
			if !h.Put(x.ID, x.Key) {
				t.Fatalf("2.1: Put(%d) behind its Drop: false", x.ID)
			}
			drains(t, "one put again", h, append(rest, x))
		}
	}
}

// TestPopped: what was popped is new when it is put again.
func TestPopped(t *testing.T) {
	h := full(pick.Item{ID: 2, Key: 1}, pick.Item{ID: 1, Key: 2})
	x, _ := h.Pop()
	if h.Drop(x.ID) {
		t.Error("2.1: Drop of what was popped")
	}
	if !h.Put(x.ID, 3) {
		t.Error("2.1: Put of what was popped: false")
	}
	drains(t, "put again", h, []pick.Item{{ID: 1, Key: 2}, {ID: 2, Key: 3}})
}

// TestAbsent: an ID that is not there is none, and nothing changes by asking for it.
func TestAbsent(t *testing.T) {
	l := []pick.Item{{ID: 1, Key: 6}, {ID: 5, Key: 2}, {ID: 6, Key: 5}}
	h := full(l...)
	for _, id := range []int{0, 2, -1, -5, 7, math.MinInt, math.MaxInt} {
		if h.Drop(id) {
			t.Errorf("2.1: Drop(%d): true", id)
		}
		if key, ok := h.Key(id); ok || key != 0 {
			t.Errorf("2.1: Key(%d): %d %v", id, key, ok)
		}
		holds(t, "asked for others", h, l)
	}
	drains(t, "asked for others", h, l)
}

// TestEnds: the least and the greatest numbers, as keys and as IDs.
func TestEnds(t *testing.T) {
	ends := []int{math.MaxInt, 0, math.MinInt, 1, -1, math.MinInt + 1, math.MaxInt - 1, math.MinInt32, math.MaxInt32}
	for n := range ends {
		var l []pick.Item
		for k, id := range ends {
			l = append(l, pick.Item{ID: id, Key: ends[(k*(n+1)+n)%len(ends)]})
		}
		h := full(l...)
		holds(t, "ends", h, l)
		for k := range l {
			l[k].Key = ends[(k*2+n)%len(ends)]
			if h.Put(l[k].ID, l[k].Key) {
				t.Fatalf("2.1: Put(%d) anew: true", l[k].ID)
			}
			holds(t, "ends put anew", h, l)
		}
		if !h.Drop(l[n].ID) {
			t.Fatalf("2.1: Drop(%d): false", l[n].ID)
		}
		drains(t, "one of the ends dropped", h, slices.Delete(l, n, n+1))
	}
}

// TestShares: what All answers, and its spare room, is the asker's own.
func TestShares(t *testing.T) {
	for n := range 20 {
		var l []pick.Item
		for k := range n {
			l = append(l, pick.Item{ID: k, Key: k % 3})
		}
		h := full(l...)
		one, two := h.All(), h.All()
		for k := range one[:cap(one)] {
			one[:cap(one)][k] = pick.Item{ID: -7, Key: -7}
		}
		if !slices.Equal(two, sorted(l)) {
			t.Fatalf("R2: two answers share: %v", two)
		}
		holds(t, "R2", h, l)
		h.Put(99, -1)
		if !slices.Equal(two, sorted(l)) {
			t.Fatalf("R2: Put changed an answer: %v", two)
		}
		drains(t, "R2", h, append(l, pick.Item{ID: 99, Key: -1}))
		if !slices.Equal(two, sorted(l)) {
			t.Fatalf("R2: Pop changed an answer: %v", two)
		}
	}
}

// TestApart: heaps know nothing of one another.
func TestApart(t *testing.T) {
	a, b := pick.New(), pick.New()
	a.Put(1, 1)
	none(t, "R7: the other one", b)
	b.Put(1, 2)
	b.Put(2, 0)
	holds(t, "R7: the one", a, []pick.Item{{ID: 1, Key: 1}})
	a.Drop(1)
	drains(t, "R7: the other one", b, []pick.Item{{ID: 1, Key: 2}, {ID: 2, Key: 0}})
}

// TestNoHeap: a nil one, and one that New did not make, don't panic.
func TestNoHeap(t *testing.T) {
	var h *pick.Heap
	if h.Put(1, 1) || len(h.All()) != 0 {
		t.Error("R1: a nil one")
	}
	none(t, "R1: a nil one", h)
	h = &pick.Heap{}
	none(t, "R1: a plain one", h)
	h.Put(1, 1)
}

// listed is what keys tell, as items in the order of 2.1.
func listed(keys map[int]int) []pick.Item {
	var l []pick.Item
	for id, key := range keys {
		l = append(l, pick.Item{ID: id, Key: key})
	}
	return sorted(l)
}

// TestLong: a long run, as a plain list tells it.
func TestLong(t *testing.T) {
	h, keys, seed := pick.New(), map[int]int{}, uint64(1)
	next := func(n int) int {
		seed = seed*6364136223846793005 + 1442695040888963407
		return int(seed>>33) % n
	}
	for n := range 6000 {
		id, key := next(90), next(41)-20
		_, is := keys[id]
		switch next(6) {
		case 0:
			if h.Drop(id) != is {
				t.Fatalf("2.1: Drop(%d) at %d: not %v", id, n, is)
			}
			delete(keys, id)
		case 1:
			var first pick.Item
			l := listed(keys)
			if len(l) > 0 {
				first = l[0]
			}
			if x, ok := h.Pop(); x != first || ok != (len(l) > 0) {
				t.Fatalf("2.1: Pop at %d: %v %v, not %v", n, x, ok, first)
			}
			delete(keys, first.ID)
		default:
			if h.Put(id, key) == is {
				t.Fatalf("2.1: Put(%d) at %d: %v", id, n, is)
			}
			keys[id] = key
		}
		holds(t, "a long run", h, listed(keys))
	}
}
