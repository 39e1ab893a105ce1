package place_test

import (
	"math"
	"slices"
	"testing"

	"corbel/api"
	"corbel/place"
)

// none are stripes, indexes or nodes that are none, whatever they are asked for, but for the first past the end.
var none = []int{-1, -2, -5, -6, -8, -40, 41, 48, 64, 255, 1 << 31, 1 << 62, -1 << 62, math.MaxInt - 5, math.MaxInt, math.MinInt, math.MinInt + 5}

// round is the place that is reached from 0 by that many steps on a round of eight, told by walking.
func round(steps int) int {
	at := 0
	for range steps {
		at++
		if at == 8 {
			at = 0
		}
	}
	return at
}

// TestNumbers: what the chapter's words say of those numbers that api gives.
func TestNumbers(t *testing.T) {
	if api.Nodes != 8 || api.Chunks != 6 || api.Stripes != 40 {
		t.Error("these tests are of 40 stripes of 6 chunks on 8 nodes")
	}
}

// TestExample: the chapter's example.
func TestExample(t *testing.T) {
	if l := place.Logs(0); !slices.Equal(l, []int{5, 6, 7, 0, 1, 2, 3, 4}) {
		t.Errorf("13.1: Logs(0): %v", l)
	}
}

// TestRight: 0 to 39 are stripes, no others.
func TestRight(t *testing.T) {
	for stripe := -300; stripe <= 300; stripe++ {
		if want := slices.Contains(all(40), stripe); place.Right(stripe) != want {
			t.Errorf("13.1: Right(%d): %v", stripe, !want)
		}
	}
	for _, stripe := range append(none, 40) {
		if place.Right(stripe) {
			t.Errorf("13.1: Right(%d)", stripe)
		}
	}
}

// all are the numbers from 0 on, that many.
func all(n int) []int {
	var l []int
	for k := range n {
		l = append(l, k)
	}
	return l
}

// TestNode: each chunk of each stripe stands where its stripe's number and its own lead, on six unlike nodes.
func TestNode(t *testing.T) {
	for stripe := range 40 {
		var on []int
		for index := range 6 {
			n := place.Node(stripe, index)
			if n != round(stripe+index) {
				t.Errorf("13.1: Node(%d, %d): %d", stripe, index, n)
			}
			on = append(on, n)
		}
		slices.Sort(on)
		if on = slices.Compact(on); len(on) != 6 || on[0] < 0 || on[5] > 7 {
			t.Errorf("13.1: the six chunks of %d stand on %v", stripe, on)
		}
	}
}

// TestNodeNone: of a stripe, or an index, that is none there is no node.
func TestNodeNone(t *testing.T) {
	for stripe := range 40 {
		for _, index := range append(none, 6, 7, 8, 39, 40) {
			if n := place.Node(stripe, index); n != -1 {
				t.Errorf("13.1: Node(%d, %d): %d, of an index that is none", stripe, index, n)
			}
		}
	}
	for _, stripe := range append(none, 40) {
		for _, index := range append(all(9), none...) {
			if n := place.Node(stripe, index); n != -1 {
				t.Errorf("13.1: Node(%d, %d): %d, of a stripe that is none", stripe, index, n)
			}
		}
	}
}

// TestIndex: Index leads back from Node, and two nodes have no chunk of a stripe.
func TestIndex(t *testing.T) {
	for stripe := range 40 {
		for index := range 6 {
			if k := place.Index(stripe, place.Node(stripe, index)); k != index {
				t.Errorf("13.1: chunk %d of %d: Index says %d", index, stripe, k)
			}
		}
		for step := range 8 {
			want := step
			if step > 5 {
				want = -1
			}
			if k := place.Index(stripe, round(stripe+step)); k != want {
				t.Errorf("13.1: Index(%d, %d): %d, not %d", stripe, round(stripe+step), k, want)
			}
		}
	}
}

// TestIndexNone: on a node that is none nothing stands, nor anywhere of a stripe that is none.
func TestIndexNone(t *testing.T) {
	for stripe := range 40 {
		for _, n := range append(none, 8, 9, 13, 16, 39, 40) {
			if k := place.Index(stripe, n); k != -1 {
				t.Errorf("13.1: Index(%d, %d): %d, of a node that is none", stripe, n, k)
			}
		}
	}
	for _, stripe := range append(none, 40) {
		for _, n := range append(all(9), none...) {
			if k := place.Index(stripe, n); k != -1 {
				t.Errorf("13.1: Index(%d, %d): %d, of a stripe that is none", stripe, n, k)
			}
		}
	}
}

// TestLogs: each node once, beginning five behind the stripe's number, and on, round.
func TestLogs(t *testing.T) {
	for stripe := range 40 {
		l := place.Logs(stripe)
		if len(l) != 8 {
			t.Fatalf("13.1: Logs(%d): %v", stripe, l)
		}
		for k, n := range l {
			if n != round(stripe+5+k) {
				t.Errorf("13.1: Logs(%d): %v", stripe, l)
			}
		}
		if slices.Sort(l); !slices.Equal(l, all(8)) {
			t.Errorf("13.1: not each node once in Logs(%d): %v", stripe, l)
		}
	}
	for _, stripe := range append(none, 40) {
		if l := place.Logs(stripe); len(l) != 0 {
			t.Errorf("13.1: Logs(%d): %v, of a stripe that is none", stripe, l)
		}
	}
}

// TestApart: an answer of Logs shares no memory with another one, and what is done with it turns no later answer.
func TestApart(t *testing.T) {
	for stripe := range 40 {
		a, b := place.Logs(stripe), place.Logs(stripe)
		kept := slices.Clone(b)
		for k := range a[:cap(a)] {
			a[:cap(a)][k] = -9
		}
		_ = append(a[:0], 1, 2, 3, 4, 5, 6, 7, 8, 9)
		if !slices.Equal(b, kept) {
			t.Errorf("R2: two answers of Logs(%d) share memory: %v", stripe, b)
		}
		if l := place.Logs(stripe); !slices.Equal(l, kept) {
			t.Errorf("R2: Logs(%d) behind what was done with an answer: %v", stripe, l)
		}
	}
}

// TestSame: the same answers, in whatever order they are asked for.
func TestSame(t *testing.T) {
	tell := func(stripe int) []int {
		l := place.Logs(stripe)
		for k := -1; k < 9; k++ {
			l = append(l, place.Node(stripe, k), place.Index(stripe, k))
		}
		return l
	}
	told := map[int][]int{}
	for stripe := -1; stripe < 42; stripe++ {
		told[stripe] = tell(stripe)
	}
	for stripe := 41; stripe >= -1; stripe-- {
		if l := tell(stripe); !slices.Equal(l, told[stripe]) {
			t.Errorf("R4: of %d first %v, then %v", stripe, told[stripe], l)
		}
	}
}
