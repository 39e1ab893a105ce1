package open_test

import (
	"math"
	"slices"
	"strings"
	"testing"

	"corbel/api"
	"corbel/cause"
	"corbel/engine"
	"corbel/open"
	"corbel/pick"
	"corbel/wire"
)

// lacks asks what is missing, and holds it against what stands written here.
func (a *pair) lacks(t *testing.T, what string, want ...pick.Item) {
	t.Helper()
	if got := a.missing(t, what); !slices.Equal(got, want) {
		t.Errorf("%s: missing %v, want %v", what, got, want)
	}
	a.holds(t, what)
}

// heals heals so many, and holds how many are right then, and the error, against what stands written here.
func (a *pair) heals(t *testing.T, what string, most, right int, not string) {
	t.Helper()
	if n, err := a.heal(t, what, most); n != right || err != not {
		t.Errorf("%s: healed %d, %q; want %d, %q", what, n, err, right, not)
	}
	a.holds(t, what)
}

func TestMissingNone(t *testing.T) {
	a := fresh(t)
	a.lacks(t, "15.2: of what was never written")
	if a.w.Sent() != 0 {
		t.Errorf("15.2: of what was never written %d are sent, want none", a.w.Sent())
	}
	a.fine(t, "15.2", 3, some(3))
	a.fine(t, "15.2", 39, some(39))
	sent := a.w.Sent()
	a.lacks(t, "15.2: of what has all")
	if a.w.Sent()-sent != 12 {
		t.Errorf("15.2: of what has all %d are sent, want 12", a.w.Sent()-sent)
	}
	// Of what was never written none lacks, whatever is lost; nor of what was, where nodes without its chunks are.
	a.lose(1, 2)
	a.fine(t, "15.2", 39, some(40))
	a.lacks(t, "15.2: of what other nodes have")
}

// TestMissingSets: each set of nodes that are lost, and of nodes that are down.
func TestMissingSets(t *testing.T) {
	for set := range 1 << 8 {
		a, what := fresh(t), name("15.2: nodes lost, as bits", set)
		for _, stripe := range []int{0, 3, 6, 38} {
			a.fine(t, what, stripe, some(stripe))
		}
		for n := range 8 {
			if set>>n&1 == 0 {
				continue
			}
			if n%2 == 0 {
				a.lose(n)
			} else {
				a.down(true, n)
			}
		}
		var want []pick.Item
		for count := 6; count > 0; count-- {
			for _, stripe := range []int{0, 3, 6, 38} {
				lack := 0
				for k := range 6 {
					lack += set >> at(stripe, k) & 1
				}
				if lack == count {
					want = append(want, pick.Item{ID: stripe, Key: -count})
				}
			}
		}
		a.lacks(t, what, want...)
	}
}

// TestMissingPending: what pends or is in doubt is told, also where nothing lacks, and where nothing was ever written.
func TestMissingPending(t *testing.T) {
	a := fresh(t)
	for _, stripe := range []int{2, 3, 5, 7, 8} {
		a.fine(t, "15.2", stripe, some(stripe))
	}
	// 3 pends, with one chunk that is not there; 8 pends with all, as one flush was lost.
	a.down(true, 4)
	a.fine(t, "15.2", 3, some(33))
	a.down(false, 4)
	a.fates(times(17, wire.Fine)...)
	a.fates(times(3, wire.NoReq)...)
	a.fine(t, "15.2", 8, some(88))
	a.lacks(t, "15.2: pending", pick.Item{ID: 3, Key: -1}, pick.Item{ID: 8})
	// 5 and 30 are in doubt, and 3 too.
	for _, stripe := range []int{30, 5, 3} {
		a.doubtful(t, "15.2", stripe, some(1))
	}
	a.lacks(t, "15.2: in doubt", pick.Item{ID: 3, Key: -1}, pick.Item{ID: 5}, pick.Item{ID: 8}, pick.Item{ID: 30})
	a.lose(7)
	a.lacks(t, "15.2: lost", pick.Item{ID: 3, Key: -2}, pick.Item{ID: 2, Key: -1}, pick.Item{ID: 5, Key: -1}, pick.Item{ID: 7, Key: -1}, pick.Item{ID: 8}, pick.Item{ID: 30})
	a.is(t, "15.2: lost", 30, 0, false, true)
}

// TestMissingPiece: a piece of another generation, or of another index, is not what is missing.
func TestMissingPiece(t *testing.T) {
	a := fresh(t)
	a.fine(t, "15.2", 3, some(1))
	a.fine(t, "15.2", 3, some(2))
	a.lose(3, 4)
	a.puts(t, 3, 1, some(1), 0)
	a.puts(t, 3, 4, some(2), 0)
	a.does(t, 4, put(3, 2, 0, some(2)))
	a.lacks(t, "15.2: other pieces", pick.Item{ID: 3, Key: -2})
	a.does(t, 4, put(3, 2, 1, some(2)))
	a.lacks(t, "15.2: other pieces", pick.Item{ID: 3, Key: -1})
	// What it says is not asked, nor of which top it is.
	a.does(t, 3, put(3, 2, 0, some(9)))
	a.does(t, 5, put(3, 3, 2, some(9)))
	a.lacks(t, "15.2: other bytes")
}

// TestMissingCalls: a Call that fails at each place is one piece that lacks, and all the others are asked.
func TestMissingCalls(t *testing.T) {
	for place := range 18 {
		for _, fate := range []int{wire.NoReq, wire.NoRep} {
			a, what := fresh(t), name("15.2: fate and place", fate, place)
			for _, stripe := range []int{3, 11, 20} {
				a.fine(t, what, stripe, some(stripe))
			}
			sent := a.w.Sent()
			a.fates(times(place, wire.Fine)...)
			a.fates(times(3, fate)...)
			a.lacks(t, what, pick.Item{ID: []int{3, 11, 20}[place/6], Key: -1})
			if a.w.Sent()-sent != 20 || a.w.Left() != 0 {
				t.Errorf("%s: %d sent, %d left", what, a.w.Sent()-sent, a.w.Left())
			}
		}
		// Who was asked at that place is told by its fall.
		a, what := fresh(t), name("15.2: a fall at place", place)
		for _, stripe := range []int{3, 11, 20} {
			a.fine(t, what, stripe, some(stripe))
		}
		a.fates(append(times(place, wire.Fine), wire.Power)...)
		n := at([]int{3, 11, 20}[place/6], place%6)
		boot := a.w.Node(n).Boot()
		a.lacks(t, what)
		if a.w.Node(n).Boot() != boot+1 {
			t.Errorf("%s: another node fell", what)
		}
	}
}

// TestMissingDead: where the wire dies on the way all that would be asked behind that lacks.
func TestMissingDead(t *testing.T) {
	a := fresh(t)
	for _, stripe := range []int{3, 11, 20} {
		a.fine(t, "15.2", stripe, some(stripe))
	}
	a.fuse(8)
	a.lacks(t, "15.2: dead", pick.Item{ID: 20, Key: -6}, pick.Item{ID: 11, Key: -4})
	a.revive()
	a.lacks(t, "15.2: revived")
}

// TestMissingTurns: it turns nothing.
func TestMissingTurns(t *testing.T) {
	a := mess(t)
	b := mess(t)
	for range 3 {
		open.Missing(a.e)
	}
	for n := range 8 {
		alike(t, "15.2: behind Missing", n, a.w.Node(n), b.w.Node(n))
	}
	a.m.sent = a.w.Sent()
	a.holds(t, "15.2: behind Missing")
}

// endangered is a pair of whose stripes 1 and 2 lack one piece, 3, 4 and 11 two, 10 three; 0 is right.
func endangered(t *testing.T) *pair {
	t.Helper()
	a := fresh(t)
	for _, stripe := range []int{11, 10, 4, 3, 2, 1} {
		a.fine(t, "15.2", stripe, some(stripe))
	}
	a.lose(2, 3, 4)
	for _, stripe := range []int{0, 1, 2, 3, 4, 11} {
		l := map[int][]int{0: {}, 1: {1, 2}, 2: {0, 2}, 3: {1}, 4: {}, 11: {0}}[stripe]
		a.puts(t, stripe, 1, some(stripe), l...)
	}
	a.fine(t, "15.2", 0, some(0))
	return a
}

func TestHeal(t *testing.T) {
	order := []pick.Item{{ID: 10, Key: -3}, {ID: 1, Key: -1}, {ID: 2, Key: -1}, {ID: 3, Key: -1}, {ID: 4, Key: -1}, {ID: 11, Key: -1}}
	if got := endangered(t).missing(t, "15.2"); !slices.Equal(got, order) {
		t.Fatalf("15.2: missing %v", got)
	}
	// 10 lacks three: it can't be read.
	not := "stripe 10: node 2: errno 7; node 3: errno 7; node 4: errno 7"
	for most := -2; most < 9; most++ {
		a, what := endangered(t), name("15.2: most", most)
		want, healed := "", min(max(most, 0), 6)
		if most > 0 {
			want = not
		}
		a.heals(t, what, most, max(healed-1, 0), want)
		for k, i := range order {
			gen := 1
			if k > 0 && k < healed {
				gen = 2
			}
			a.is(t, what, i.ID, gen, false, false)
			if k > 0 {
				a.reads(t, what, i.ID, some(i.ID))
			}
		}
		a.is(t, what, 0, 1, false, false)
		left := slices.Clone(order[1:])
		if healed > 0 {
			left = slices.Clone(order[healed:])
		}
		a.lacks(t, what, append([]pick.Item{order[0]}, left...)...)
		if most > 1 {
			a.next(t, what, 1, 3)
		}
	}
	for _, most := range []int{math.MaxInt, math.MinInt} {
		a := endangered(t)
		a.heal(t, name("15.2: most", most), most)
		a.holds(t, name("15.2: most", most))
	}
}

// TestHealOrder: a Heal that ends behind each of its tries tells who was asked what till then.
func TestHealOrder(t *testing.T) {
	// Missing asks for two stripes; 3 is read by five Calls, as its first piece lacks, and written; then 4, by four.
	a := healing(t)
	a.lacks(t, "15.2: in order", pick.Item{ID: 3, Key: -2}, pick.Item{ID: 4, Key: -1})
	l := slices.Concat(nothing(12+5), carried(3, 2, some(3)), nothing(4), carried(4, 2, some(4)))
	for tries := range len(l) + 1 {
		a, what := healing(t), name("15.2: in order, tries", tries)
		a.w.Fuse(tries)
		open.Heal(a.e, 9)
		for _, x := range l[:tries] {
			if x.q.Kind != 0 {
				a.m.nodes[x.n].Do(x.q)
			}
		}
		if a.w.Sent()-a.m.sent != tries {
			t.Errorf("%s: %d sent", what, a.w.Sent()-a.m.sent)
		}
		a.stand(t, what)
	}
	a.heals(t, "15.2: in order", 2, 2, "")
	a.lacks(t, "15.2: in order")
}

// nothing is asked, that turns anything, so often.
func nothing(n int) []asked { return make([]asked, n) }

// healing is a pair of whose stripe 3 two pieces lack, its first one and its last one, and of 4 its last one.
func healing(t *testing.T) *pair {
	t.Helper()
	a := fresh(t)
	a.fine(t, "15.2", 3, some(3))
	a.fine(t, "15.2", 4, some(4))
	a.lose(3, 0, 1)
	a.puts(t, 4, 1, some(4), 4)
	return a
}

// TestHealCalls: each of the Calls of a Heal is lost, or its node falls ahead of it.
func TestHealCalls(t *testing.T) {
	for place := range 12 + 5 + 26 + 4 + 26 {
		for _, l := range [][]int{times(3, wire.NoReq), times(3, wire.NoRep), {wire.Power}, {wire.NoReq, wire.NoRep}} {
			a, what := healing(t), name("15.2: place and fates", append([]int{place}, l...)...)
			a.fates(append(times(place, wire.Fine), l...)...)
			a.heal(t, what, 9)
			a.holds(t, what)
			a.heal(t, what+", again", 9)
			a.lacks(t, what+", again")
			a.right(t, what+", again")
			a.reads(t, what, 3, some(3))
			a.reads(t, what, 4, some(4))
		}
	}
}

// TestHealRead: a stripe whose Read fails stays as it was, and those behind it are healed.
func TestHealRead(t *testing.T) {
	a := fresh(t)
	for _, stripe := range []int{1, 2, 5, 6} {
		a.fine(t, "15.2: no Read", stripe, some(stripe))
	}
	a.lose(6, 7, 5)
	a.puts(t, 1, 1, some(1), 4)
	a.lacks(t, "15.2: no Read", pick.Item{ID: 2, Key: -3}, pick.Item{ID: 5, Key: -3}, pick.Item{ID: 6, Key: -2}, pick.Item{ID: 1, Key: -1})
	two, five := "stripe 2: node 5: errno 7; node 6: errno 7; node 7: errno 7", "stripe 5: node 5: errno 7; node 6: errno 7; node 7: errno 7"
	a.heals(t, "15.2: no Read, of one", 1, 0, two)
	a.heals(t, "15.2: no Read, of two", 2, 0, two+"; "+five)
	a.heals(t, "15.2: no Read, of three", 3, 1, two+"; "+five)
	a.heals(t, "15.2: no Read, of all", 4, 1, two+"; "+five)
	for stripe, gen := range map[int]int{1: 2, 2: 1, 5: 1, 6: 2} {
		a.is(t, "15.2: no Read", stripe, gen, false, false)
	}
	a.reads(t, "15.2: no Read", 1, some(1))
	a.reads(t, "15.2: no Read", 6, some(6))
	a.lacks(t, "15.2: no Read", pick.Item{ID: 2, Key: -3}, pick.Item{ID: 5, Key: -3})
}

// TestHealWrite: one whose Write fails is in doubt, and its error tells the nodes.
func TestHealWrite(t *testing.T) {
	a := healing(t)
	// All Logs of 3 are lost.
	a.fates(times(12+5, wire.Fine)...)
	a.fates(times(24, wire.NoReq)...)
	sent := a.w.Sent()
	n, err := open.Heal(a.e, 9)
	a.m.heal(9)
	tells(t, "15.2: no Write", err, "stripe 3: node 0: errno 5; node 1: errno 5; node 2: errno 5; node 3: errno 5; node 4: errno 5; node 5: errno 5; node 6: errno 5; node 7: errno 5")
	if stripe, of := cause.Stripe(err); n != 1 || stripe != 3 || !of || cause.Code(err) != api.ErrLost || len(cause.Nodes(err)) != 8 {
		t.Errorf("15.2: no Write: %d, stripe %d, code %v, nodes %v", n, stripe, cause.Code(err), cause.Nodes(err))
	}
	a.is(t, "15.2: no Write", 3, 1, false, true)
	a.is(t, "15.2: no Write", 4, 2, false, false)
	a.holds(t, "15.2: no Write")
	if a.w.Sent()-sent != 12+5+24+4+26 {
		t.Errorf("15.2: no Write: %d sent", a.w.Sent()-sent)
	}
	a.lacks(t, "15.2: no Write", pick.Item{ID: 3, Key: -2})
	// Its Read settles it as generation 3, and it is carried as 4.
	a.heals(t, "15.2: no Write, again", 1, 1, "")
	a.is(t, "15.2: no Write, again", 3, 4, false, false)
	a.reads(t, "15.2: no Write, again", 3, some(3))
}

// TestHealErrors: those of Reads and of Writes, in the order of what was missing.
func TestHealErrors(t *testing.T) {
	a := endangered(t)
	a.fates(times(7*6+6+5, wire.Fine)...)
	// 1 is read, but none of its Logs is heard; of 2 two Gets of five are lost.
	a.fates(times(24, wire.NoReq)...)
	a.fates(times(3, wire.Fine)...)
	a.fates(times(6, wire.NoRep)...)
	n, err := open.Heal(a.e, 9)
	want := []string{
		"stripe 10: node 2: errno 7; node 3: errno 7; node 4: errno 7",
		"stripe 1: node 6: errno 5; node 7: errno 5; node 0: errno 5; node 1: errno 5; node 2: errno 5; node 3: errno 5; node 4: errno 5; node 5: errno 5",
		"stripe 2: node 3: errno 7; node 5: errno 5; node 6: errno 5",
	}
	tells(t, "15.2: errors", err, strings.Join(want, "; "))
	if stripe, of := cause.Stripe(err); n != 3 || stripe != 10 || !of || cause.Code(err) != api.ErrNone || !cause.Is(err, api.ErrLost) || cause.Is(err, api.ErrDown) {
		t.Errorf("15.2: errors: %d, stripe %d, code %v", n, stripe, cause.Code(err))
	}
	if got := cause.Nodes(err); !slices.Equal(got, []int{2, 3, 4, 6, 7, 0, 1, 2, 3, 4, 5, 3, 5, 6}) {
		t.Errorf("15.2: errors: nodes %v", got)
	}
	a.m.heal(9)
	a.holds(t, "15.2: errors")
	// Of one error the stripe is told as of a Read or Write.
	a.fates(times(7*6, wire.Fine)...)
	_, err = open.Heal(a.e, 1)
	tells(t, "15.2: one error", err, want[0])
	if of, ok := err.(*cause.Of); !ok || of.Stripe != 10 {
		t.Errorf("15.2: one error: %T", err)
	}
	a.m.heal(1)
	a.holds(t, "15.2: one error")
}

// TestHealPending: the chunks of one that pends are done again, as its generation: all six, or not.
func TestHealPending(t *testing.T) {
	a := fresh(t)
	a.fine(t, "15.2: pending", 3, some(1))
	a.down(true, 4, 5)
	a.fine(t, "15.2: pending", 3, some(2))
	a.down(false, 4)
	a.lacks(t, "15.2: pending", pick.Item{ID: 3, Key: -2})
	sent := a.w.Sent()
	a.heals(t, "15.2: pending, one down", 1, 0, "")
	a.is(t, "15.2: pending, one down", 3, 2, true, false)
	// Six were asked for what is missing, five did a Put and a Flush.
	if a.w.Sent()-sent != 5+10 {
		t.Errorf("15.2: pending, one down: %d sent, want 15", a.w.Sent()-sent)
	}
	a.have(t, "15.2: pending, one down", 1, 1, 1, 0, 0, 0, 0, 0)
	a.down(false, 5)
	b := a.w.Sent()
	a.heals(t, "15.2: pending, none down", 1, 1, "")
	a.is(t, "15.2: pending, none down", 3, 2, false, false)
	if a.w.Sent()-b != 6+12+8 {
		t.Errorf("15.2: pending, none down: %d sent, want 26", a.w.Sent()-b)
	}
	a.have(t, "15.2: pending, none down", 0, 0, 0, 0, 0, 0, 0, 0)
	a.lacks(t, "15.2: pending, none down")
	a.next(t, "15.2: pending, none down", 3, 3)
}

// TestHealDoubt: one in doubt is settled by its Read, and carried once more; where that pends its chunks are done again.
func TestHealDoubt(t *testing.T) {
	a := fresh(t)
	a.fine(t, "15.2: doubt", 3, some(3))
	a.doubtful(t, "15.2: doubt", 3, some(1))
	a.doubtful(t, "15.2: doubt", 7, some(1))
	sent := a.w.Sent()
	a.heals(t, "15.2: doubt", 9, 2, "")
	a.is(t, "15.2: doubt", 3, 4, false, false)
	a.is(t, "15.2: doubt", 7, 3, false, false)
	if a.w.Sent()-sent != 6+4+26+26+26+26 {
		t.Errorf("15.2: doubt: %d sent", a.w.Sent()-sent)
	}
	a.reads(t, "15.2: doubt", 3, some(3))
	a.reads(t, "15.2: doubt", 7, make([]byte, 128))
	// In its Read's Write the third chunk is lost.
	a.doubtful(t, "15.2: doubt that pends", 3, some(1))
	a.fates(times(12+4+6+4, wire.Fine)...)
	a.fates(times(3, wire.NoReq)...)
	a.heals(t, "15.2: doubt that pends", 9, 1, "")
	a.is(t, "15.2: doubt that pends", 3, 6, false, false)
	a.reads(t, "15.2: doubt that pends", 3, some(3))
	// It pends and is in doubt: its Read writes it as the next, and it is carried once more.
	a.down(true, 4)
	a.fine(t, "15.2: pends in doubt", 3, some(5))
	a.down(false, 4)
	a.doubtful(t, "15.2: pends in doubt", 3, some(6))
	a.is(t, "15.2: pends in doubt", 3, 7, true, true)
	a.heals(t, "15.2: pends in doubt", 9, 1, "")
	a.is(t, "15.2: pends in doubt", 3, 10, false, false)
	a.reads(t, "15.2: pends in doubt", 3, some(5))
	a.lacks(t, "15.2: pends in doubt")
}

// TestHealDown: where a node stays down all that has chunks there pends then, and none of it is right.
func TestHealDown(t *testing.T) {
	a := fresh(t)
	for stripe := range 8 {
		a.fine(t, "15.2: down", stripe, some(stripe))
	}
	a.down(true, 7)
	// 0 and 1 have no chunk on 7.
	a.lose(0)
	a.heals(t, "15.2: down", 99, 1, "")
	if !slices.Equal(a.e.Pending(), []int{2, 3, 4, 5, 6, 7}) {
		t.Errorf("15.2: down: Pending %v", a.e.Pending())
	}
	a.down(false, 7)
	a.heals(t, "15.2: not down", 99, 6, "")
	a.lacks(t, "15.2: not down")
	for stripe := range 8 {
		a.reads(t, "15.2: not down", stripe, some(stripe))
	}
	a.right(t, "15.2: not down")
}

// TestHealAll: whichever two nodes are lost, a Heal of all makes all right: two more may be lost.
func TestHealAll(t *testing.T) {
	for x := range 8 {
		for y := range x {
			what := name("15.2: heal: nodes", x, y)
			a := everything(t, what)
			a.lose(x, y)
			lack := len(a.missing(t, what))
			a.heals(t, what, lack, lack, "")
			a.lacks(t, what)
			a.right(t, what)
			a.lose((x+3)%8, (x+5)%8)
			a.same(t, what)
			a.heals(t, what, 99, len(a.missing(t, what)), "")
			a.opens(t, what)
			a.same(t, what)
		}
	}
}

// TestNilEngine: 15.2: whatever most is; and one that nobody made.
func TestNilEngine(t *testing.T) {
	for _, e := range []*engine.Engine{nil, {}} {
		if l, err := open.Missing(e); len(l) != 0 || cause.Code(err) != api.ErrArg {
			t.Errorf("15.2: Missing: %v, %v", l, err)
		}
		for _, most := range []int{-1, 0, 1, 40} {
			if n, err := open.Heal(e, most); n != 0 || cause.Code(err) != api.ErrArg {
				t.Errorf("15.2: Heal: %d, %v", n, err)
			}
		}
	}
}
