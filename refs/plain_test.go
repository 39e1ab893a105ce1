package refs_test

import (
	"math"
	"testing"

	"corbel/refs"
)

// plain does by the words of chapter 16 what a Refs must do, on a list of all numbers around those that may be counted.
type plain struct {
	first, last int
	count       [1010]int
	held        [1010]bool
}

// brought is n, brought within 1 to 1000.
func brought(n int) int {
	if n < 1 {
		return 1
	}
	if n > 1000 {
		return 1000
	}
	return n
}

// is tells whether id is one of the stripes at all.
func (p *plain) is(id int) bool { return p.first <= id && id <= p.last }

// free tells whether id may be taken.
func (p *plain) free(id int) bool { return p.is(id) && p.count[id] == 0 && !p.held[id] }

func (p *plain) take() (int, bool) {
	for id := range p.count {
		if p.free(id) {
			p.count[id] = 1
			return id, true
		}
	}
	return 0, false
}

func (p *plain) add(id int) bool {
	if !p.is(id) || p.count[id] == 0 {
		return false
	}
	p.count[id]++
	return true
}

func (p *plain) drop(id int) bool {
	if !p.is(id) || p.count[id] == 0 {
		return false
	}
	p.count[id]--
	p.held[id] = p.count[id] == 0
	return true
}

func (p *plain) settle() { p.held = [1010]bool{} }

// counted is the count of id.
func (p *plain) counted(id int) int {
	if !p.is(id) {
		return 0
	}
	return p.count[id]
}

// how tells how many are free, and how many held.
func (p *plain) how() (int, int) {
	free, held := 0, 0
	for id := range p.count {
		if p.free(id) {
			free++
		}
		if p.held[id] {
			held++
		}
	}
	return free, held
}

// pair is a Refs beside the plain one that is told the same.
type pair struct {
	r *refs.Refs
	p *plain
}

// both makes a pair of the stripes from first to last.
func both(first, last int) pair {
	return pair{refs.New(first, last), &plain{first: brought(first), last: brought(last)}}
}

// far are numbers that are none of any Refs.
func far() []int {
	return []int{0, -1, -17, 1001, 1002, 1009, 1 << 20, math.MinInt, math.MaxInt, math.MinInt + 1, math.MaxInt - 1, math.MinInt32, math.MaxInt32}
}

// holds checks all that r tells without being changed, twice.
func (a pair) holds(t *testing.T, what string) {
	t.Helper()
	free, held := a.p.how()
	for range 2 {
		if a.r.Free() != free || a.r.Held() != held {
			t.Fatalf("16.1: %s: %d free and %d held, not %d and %d", what, a.r.Free(), a.r.Held(), free, held)
		}
		for id := -3; id < 1006; id++ {
			if got, want := a.r.Count(id), a.p.counted(id); got != want {
				t.Fatalf("16.1: %s: Count(%d): %d, not %d", what, id, got, want)
			}
		}
		for _, id := range far() {
			if got := a.r.Count(id); got != 0 {
				t.Fatalf("16.1: %s: Count(%d): %d, of none", what, id, got)
			}
		}
	}
}

// take takes one of each, and answers it (0: none).
func (a pair) take(t *testing.T, what string) int {
	t.Helper()
	want, is := a.p.take()
	if id, ok := a.r.Take(); id != want || ok != is {
		t.Fatalf("16.1: %s: Take: %d %v, not %d %v", what, id, ok, want, is)
	}
	return want
}

func (a pair) add(t *testing.T, what string, id int) {
	t.Helper()
	if want := a.p.add(id); a.r.Add(id) != want {
		t.Fatalf("16.1: %s: Add(%d): not %v", what, id, want)
	}
}

func (a pair) drop(t *testing.T, what string, id int) {
	t.Helper()
	if want := a.p.drop(id); a.r.Drop(id) != want {
		t.Fatalf("16.1: %s: Drop(%d): not %v", what, id, want)
	}
}

func (a pair) settle() {
	a.p.settle()
	a.r.Settle()
}

// drains takes all that are free, and checks that none comes behind them.
func (a pair) drains(t *testing.T, what string) {
	t.Helper()
	for a.take(t, what) != 0 {
		a.holds(t, what)
	}
	a.take(t, what)
	a.holds(t, what)
}

// dice are numbers in a disorder that is the same each time.
type dice struct{ x uint32 }

func (d *dice) roll(n int) int {
	d.x = d.x*1664525 + 1013904223
	return int(d.x>>8) % n
}

// step does one of all calls, on one of the stripes or one beside them.
func (a pair) step(t *testing.T, what string, d *dice) {
	t.Helper()
	id := a.p.first - 2 + d.roll(max(a.p.last-a.p.first, 0)+5)
	switch x := d.roll(20); {
	case x < 7:
		a.take(t, what)
	case x < 11:
		a.add(t, what, id)
	case x < 19:
		a.drop(t, what, id)
	default:
		a.settle()
	}
}
