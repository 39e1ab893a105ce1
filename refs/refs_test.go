package refs_test

import (
	"math"
	"slices"
	"strconv"
	"testing"

	"corbel/refs"
)

// takes checks that these are taken, one behind the other, and none behind them.
func takes(t *testing.T, what string, r *refs.Refs, l ...int) {
	t.Helper()
	for _, want := range l {
		if id, ok := r.Take(); id != want || !ok {
			t.Fatalf("16.1: %s: Take: %d %v, not %d", what, id, ok, want)
		}
		if n := r.Count(want); n != 1 {
			t.Fatalf("16.1: %s: %d was taken, and its Count is %d", what, want, n)
		}
	}
}

// none checks that none is free.
func none(t *testing.T, what string, r *refs.Refs) {
	t.Helper()
	for range 2 {
		if id, ok := r.Take(); id != 0 || ok {
			t.Fatalf("16.1: %s: Take of none: %d %v", what, id, ok)
		}
	}
	if n := r.Free(); n != 0 {
		t.Fatalf("16.1: %s: %d are free", what, n)
	}
}

func TestExample(t *testing.T) {
	r := refs.New(17, 19)
	takes(t, "the example", r, 17, 18)
	if !r.Drop(17) {
		t.Error("16.1: the example: Drop(17): false")
	}
	takes(t, "the example", r, 19)
	none(t, "the example", r)
}

// TestNew: whichever first and last, all of them are free, and they are taken rising.
func TestNew(t *testing.T) {
	edges := []int{-7, -1, 0, 1, 2, 3, 17, 39, 40, 500, 998, 999, 1000, 1001, 1002, 5000, math.MinInt, math.MaxInt, math.MinInt + 1, math.MaxInt - 1}
	for _, first := range edges {
		for _, last := range edges {
			what := "New(" + strconv.Itoa(first) + ", " + strconv.Itoa(last) + ")"
			a := both(first, last)
			a.holds(t, what)
			for a.take(t, what) != 0 {
			}
			a.holds(t, what)
			none(t, what, a.r)
		}
	}
}

// TestNewByHand: how many there are, and the lowest and the greatest of them.
func TestNewByHand(t *testing.T) {
	for _, c := range []struct{ first, last, many, from, to int }{
		{17, 39, 23, 17, 39},
		{5, 5, 1, 5, 5},
		{5, 4, 0, 0, 0},
		{1000, 1, 0, 0, 0},
		{1, 1000, 1000, 1, 1000},
		{0, 1001, 1000, 1, 1000},
		{-50, 3, 3, 1, 3},
		{998, 4000, 3, 998, 1000},
		{10, -2, 0, 0, 0},
		{2, 0, 0, 0, 0},
		{1, 0, 1, 1, 1},
		{-9, -3, 1, 1, 1},
		{-3, -9, 1, 1, 1},
		{1000, 1000, 1, 1000, 1000},
		{1001, 999, 0, 0, 0},
		{2000, 3000, 1, 1000, 1000},
		{3000, 2000, 1, 1000, 1000},
	} {
		r := refs.New(c.first, c.last)
		if r.Free() != c.many || r.Held() != 0 {
			t.Fatalf("16.1: New(%d, %d): %d free, %d held, not %d and 0", c.first, c.last, r.Free(), r.Held(), c.many)
		}
		for k := range c.many {
			takes(t, "New by hand", r, c.from+k)
		}
		none(t, "New by hand", r)
		if c.many > 0 && r.Count(c.to) != 1 {
			t.Errorf("16.1: New(%d, %d): %d is not its last", c.first, c.last, c.to)
		}
	}
}

// TestTake: of none that is free there is no answer, and it changes nothing: where all are counted, held, or some of both.
func TestTake(t *testing.T) {
	a := both(4, 9)
	a.drains(t, "all counted")
	for id := 4; id <= 9; id++ {
		a.drop(t, "some held", id)
		a.take(t, "some held")
		a.holds(t, "some held")
	}
	a.settle()
	a.holds(t, "all settled")
	a.drains(t, "all settled")
}

// TestLowest: the lowest free one comes, also where it was free later than others.
func TestLowest(t *testing.T) {
	r := refs.New(30, 39)
	takes(t, "lowest", r, 30, 31, 32, 33, 34)
	for _, id := range []int{33, 30, 32} {
		r.Drop(id)
	}
	takes(t, "lowest: three are held", r, 35)
	r.Settle()
	takes(t, "lowest: three were settled", r, 30, 32, 33, 36)
	r.Drop(36)
	r.Drop(34)
	r.Settle()
	takes(t, "lowest: two were settled", r, 34, 36, 37, 38, 39)
	none(t, "lowest", r)
}

// TestAdd: as often as one is added, so often more it may be dropped.
func TestAdd(t *testing.T) {
	for most := range 9 {
		a := both(17, 20)
		a.take(t, "Add")
		a.take(t, "Add")
		for range most {
			a.add(t, "Add", 18)
			a.holds(t, "Add")
		}
		for range most + 3 {
			a.drop(t, "Drop", 18)
			a.holds(t, "Drop")
		}
		a.add(t, "Add of one that is held", 18)
		a.holds(t, "Add of one that is held")
		a.settle()
		a.add(t, "Add of one that is free", 18)
		a.drains(t, "Add, all the way")
	}
}

// TestManyAdds: a count that is great.
func TestManyAdds(t *testing.T) {
	r := refs.New(17, 18)
	takes(t, "many", r, 17)
	const many = 100000
	for range many {
		if !r.Add(17) {
			t.Fatal("16.1: Add: false")
		}
	}
	if n := r.Count(17); n != many+1 {
		t.Fatalf("16.1: Count: %d, not %d", n, many+1)
	}
	for range many {
		if !r.Drop(17) || r.Held() != 0 {
			t.Fatal("16.1: Drop")
		}
	}
	if r.Count(17) != 1 || !r.Drop(17) || r.Drop(17) || r.Held() != 1 || r.Free() != 1 {
		t.Error("16.1: the last Drop")
	}
}

// TestAbsent: of what is not counted there is no Add and no Drop, and neither changes anything.
func TestAbsent(t *testing.T) {
	a := both(17, 23)
	for range 5 {
		a.take(t, "absent")
	}
	a.add(t, "absent", 18)
	a.drop(t, "absent", 19)
	a.drop(t, "absent", 20)
	a.holds(t, "absent")
	others := append([]int{1, 15, 16, 24, 25, 39, 999, 1000, 19, 20, 22, 23}, far()...)
	for _, id := range others {
		if a.r.Add(id) {
			t.Errorf("16.1: Add(%d): true", id)
		}
		a.holds(t, "absent: Add")
		if a.r.Drop(id) {
			t.Errorf("16.1: Drop(%d): true", id)
		}
		a.holds(t, "absent: Drop")
	}
	a.drains(t, "absent")
	a.settle()
	a.drains(t, "absent, settled")
}

// TestNewIsNone: of a Refs of none all is none.
func TestNewIsNone(t *testing.T) {
	r := refs.New(9, 8)
	for _, id := range append(far(), 1, 8, 9, 10, 1000) {
		if r.Add(id) || r.Drop(id) || r.Count(id) != 0 {
			t.Errorf("16.1: of none: %d", id)
		}
	}
	r.Settle()
	none(t, "of none", r)
	if r.Held() != 0 {
		t.Error("16.1: of none: one is held")
	}
}

// orders calls f with each order of the numbers from first to last.
func orders(first, last int, f func([]int)) {
	var place func(l, rest []int)
	place = func(l, rest []int) {
		if len(rest) == 0 {
			f(l)
		}
		for k, x := range rest {
			place(append(slices.Clone(l), x), slices.Delete(slices.Clone(rest), k, k+1))
		}
	}
	var all []int
	for k := first; k <= last; k++ {
		all = append(all, k)
	}
	place(nil, all)
}

// TestOrder: in whichever order they are dropped, and however many of them ahead of the first Settle, they are taken rising.
func TestOrder(t *testing.T) {
	orders(21, 25, func(l []int) {
		for cut := range len(l) + 1 {
			r := refs.New(21, 25)
			takes(t, "an order", r, 21, 22, 23, 24, 25)
			for k, id := range l {
				if k == cut {
					r.Settle()
				}
				if !r.Drop(id) {
					t.Fatalf("16.1: an order: Drop(%d): false", id)
				}
			}
			early := slices.Sorted(slices.Values(l[:cut%len(l)]))
			takes(t, "an order: what was settled", r, early...)
			none(t, "an order: what was settled", r)
			if r.Held() != len(l)-len(early) {
				t.Fatalf("16.1: an order: %d held, not %d", r.Held(), len(l)-len(early))
			}
			r.Settle()
			takes(t, "an order: all", r, slices.Sorted(slices.Values(l[cut%len(l):]))...)
			none(t, "an order: all", r)
		}
	})
}

// TestSettle: of none that is held, of one, of all.
func TestSettle(t *testing.T) {
	a := both(17, 22)
	a.settle()
	a.holds(t, "Settle of a new one")
	a.take(t, "Settle")
	a.take(t, "Settle")
	a.add(t, "Settle", 18)
	a.settle()
	a.holds(t, "Settle of none")
	a.drop(t, "Settle", 17)
	a.holds(t, "one held")
	a.settle()
	a.holds(t, "Settle of one")
	a.settle()
	a.holds(t, "Settle twice")
	a.drains(t, "Settle of one")
	for id := 22; id >= 17; id-- {
		a.drop(t, "Settle", id)
		a.drop(t, "Settle", id)
	}
	a.holds(t, "all held")
	a.take(t, "all held")
	a.settle()
	a.holds(t, "Settle of all")
	a.drains(t, "Settle of all")
}

// TestAnew: one that was dropped and settled is counted from 1 on again.
func TestAnew(t *testing.T) {
	a := both(5, 6)
	for n := range 6 {
		a.take(t, "anew")
		for range n {
			a.add(t, "anew", 5)
		}
		a.holds(t, "anew")
		for range n + 1 {
			a.drop(t, "anew", 5)
		}
		a.holds(t, "anew, dropped")
		a.settle()
		a.holds(t, "anew, settled")
	}
	a.drains(t, "anew")
}

// TestAll: each run of up to six calls on two stripes.
func TestAll(t *testing.T) {
	const calls = 6
	many := 1
	for range calls {
		many *= calls
	}
	for n := range many {
		r, p := refs.New(17, 18), &plain{first: 17, last: 18}
		a := pair{r, p}
		for x, k := n, 0; k < calls; x, k = x/calls, k+1 {
			switch x % calls {
			case 0:
				a.take(t, "each run")
			case 1, 2:
				a.add(t, "each run", 16+x%calls)
			case 3, 4:
				a.drop(t, "each run", 14+x%calls)
			default:
				a.settle()
			}
			free, held := p.how()
			if r.Free() != free || r.Held() != held || r.Count(17) != p.count[17] || r.Count(18) != p.count[18] {
				t.Fatalf("16.1: each run: run %d, call %d: %d free, %d held, counts %d and %d", n, k, r.Free(), r.Held(), r.Count(17), r.Count(18))
			}
		}
	}
}

// TestLong: walks, as a plain list of counts tells them.
func TestLong(t *testing.T) {
	for k, c := range [][2]int{{17, 39}, {1, 5}, {-4, 3}, {990, 2000}, {7, 7}, {8, 7}, {1, 1000}, {400, 500}} {
		a, d := both(c[0], c[1]), &dice{uint32(k)}
		for n := range 2500 {
			a.step(t, "a walk", d)
			if n%5 == 0 {
				a.holds(t, "a walk")
			}
		}
		a.settle()
		a.drains(t, "a walk's end")
	}
}

// TestApart: each of several knows nothing of the others.
func TestApart(t *testing.T) {
	all, d := []pair{both(17, 39), both(17, 39), both(1, 30), both(39, 17)}, &dice{9}
	for range 3000 {
		all[d.roll(len(all))].step(t, "R7: one of several", d)
	}
	for _, a := range all {
		a.holds(t, "R2: one of several")
		a.drains(t, "R2: one of several")
	}
}

// TestSame: two that are told the same tell the same.
func TestSame(t *testing.T) {
	for seed := range 20 {
		one, two, d := refs.New(17, 39), refs.New(17, 39), &dice{uint32(seed)}
		for range 400 {
			id := 15 + d.roll(27)
			switch d.roll(5) {
			case 0, 1:
				x, is := one.Take()
				if y, ok := two.Take(); x != y || is != ok {
					t.Fatalf("R4: Take: %d %v and %d %v", x, is, y, ok)
				}
			case 2:
				if one.Add(id) != two.Add(id) {
					t.Fatalf("R4: Add(%d)", id)
				}
			case 3:
				if one.Drop(id) != two.Drop(id) {
					t.Fatalf("R4: Drop(%d)", id)
				}
			default:
				one.Settle()
				two.Settle()
			}
			if one.Free() != two.Free() || one.Held() != two.Held() || one.Count(id) != two.Count(id) {
				t.Fatalf("R4: behind a call with %d", id)
			}
		}
	}
}

// TestNoRefs: a nil one, and one that New did not make, have no answers and don't panic.
func TestNoRefs(t *testing.T) {
	for what, r := range map[string]*refs.Refs{"a nil one": nil, "a plain one": {}} {
		for range 2 {
			for _, id := range append(far(), 1, 17, 39, 1000) {
				if r.Add(id) || r.Drop(id) || r.Count(id) != 0 {
					t.Errorf("R1: %s: %d", what, id)
				}
			}
			none(t, "R1: "+what, r)
			r.Settle()
			if r.Held() != 0 {
				t.Errorf("R1: %s: one is held", what)
			}
		}
	}
}
