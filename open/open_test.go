package open_test

import (
	"bytes"
	"math"
	"slices"
	"strings"
	"testing"

	"corbel/api"
	"corbel/cause"
	"corbel/open"
	"corbel/wire"
)

// asking is how many Calls an Open asks by: Intents of each node, and Get of each chunk.
const asking = 8 + 40*6

// whom is the node of each of these Calls.
func whom(place int) int {
	if place < 8 {
		return place
	}
	return at((place-8)/6, (place-8)%6)
}

// carried is what is asked where a stripe is carried and all goes well, one behind the other.
func carried(stripe, gen int, b []byte) []asked {
	var l []asked
	for _, n := range logs(stripe)[:3] {
		l = append(l, asked{n, log(stripe, gen, b)}, asked{n, flush()})
	}
	for k := range 6 {
		l = append(l, asked{at(stripe, k), put(stripe, gen, k, b)}, asked{at(stripe, k), flush()})
	}
	for n := range 8 {
		l = append(l, asked{n, release(stripe, gen)})
	}
	return l
}

// follows: the nodes are as the plain ones that were asked just these, and nothing else was sent but what asks.
func (a *pair) follows(t *testing.T, what string, l []asked) {
	t.Helper()
	if want := a.m.sent + asking + len(l); a.w.Sent() != want {
		t.Errorf("%s: %d sent, want %d", what, a.w.Sent(), want)
	}
	for _, x := range l {
		a.m.nodes[x.n].Do(x.q)
	}
	a.stand(t, what)
}

// mends opens where nothing fails, and holds what is asked against what stands written here.
func (a *pair) mends(t *testing.T, what string, l ...[]asked) {
	t.Helper()
	e, err := open.Open(a.w)
	if err != nil || e == nil {
		t.Fatalf("%s: Open: %v", what, err)
	}
	a.follows(t, what, slices.Concat(l...))
	// Behind that the plain one is told what there is: an Open of nodes that are right turns nothing.
	a.m.sent = a.w.Sent()
	a.opens(t, what+", again")
}

func TestNew(t *testing.T) {
	a := fresh(t)
	a.opens(t, "15.1: new nodes")
	if a.w.Sent() != asking {
		t.Errorf("15.1: new nodes: %d sent, want %d", a.w.Sent(), asking)
	}
	for k := range 40 {
		a.is(t, "15.1: new nodes", k, 0, false, false)
		a.reads(t, "15.1: new nodes", k, make([]byte, 128))
		a.next(t, "15.1: new nodes", k, 1)
	}
	a.holds(t, "15.1: new nodes")
}

func TestNilWire(t *testing.T) {
	e, err := open.Open(nil)
	if e != nil || cause.Code(err) != api.ErrArg || len(cause.Nodes(err)) != 0 {
		t.Errorf("15.1: Open of nil: %v, %v; want ErrArg", e, err)
	}
	e, err = open.Open(new(wire.Wire))
	if e != nil || cause.Code(err) != api.ErrArg {
		t.Errorf("R1: Open of a wire without nodes: %v, %v; want ErrArg", e, err)
	}
}

// TestWritten: behind writes that went well it asks, and does nothing else.
func TestWritten(t *testing.T) {
	for _, step := range []int{1, 2, 7, 39} {
		a, what := fresh(t), name("15.1: behind writes, step", step)
		for stripe := 0; stripe < 40; stripe += step {
			for gen := range 1 + stripe%4 {
				a.fine(t, what, stripe, some(stripe*10+gen))
			}
		}
		a.mends(t, what)
		for stripe := range 40 {
			want, gen := make([]byte, 128), 0
			if stripe%step == 0 {
				gen = 1 + stripe%4
				want = some(stripe*10 + gen - 1)
			}
			a.is(t, what, stripe, gen, false, false)
			a.reads(t, what, stripe, want)
			a.next(t, what, stripe, gen+1)
		}
		a.holds(t, what)
	}
}

// everything is a pair of which each stripe was written, some twice.
func everything(t *testing.T, what string) *pair {
	t.Helper()
	a := fresh(t)
	for stripe := range 40 {
		a.fine(t, what, stripe, some(stripe))
		if stripe%3 == 0 {
			a.fine(t, what, stripe, some(stripe+100))
		}
	}
	return a
}

// same: all bytes are as everything wrote them.
func (a *pair) same(t *testing.T, what string) {
	t.Helper()
	for stripe := range 40 {
		want := some(stripe)
		if stripe%3 == 0 {
			want = some(stripe + 100)
		}
		a.reads(t, what, stripe, want)
	}
}

// TestExample: whichever two nodes are lost, and again behind the Open.
func TestExample(t *testing.T) {
	for x := range 8 {
		for y := range x {
			what := name("15: the example: nodes", x, y)
			a := everything(t, what)
			a.lose(x, y)
			a.opens(t, what)
			a.same(t, what)
			a.lose((x+3)%8, (x+5)%8)
			a.opens(t, what+", two more")
			a.same(t, what+", two more")
		}
	}
}

// TestOneNode: behind one that was lost what it had is carried again; behind one that fell its intents are there again, too.
func TestOneNode(t *testing.T) {
	for n := range 8 {
		a, what := everything(t, "15.1"), name("15.1: lost", n)
		a.lose(n)
		var l [][]asked
		for stripe := range 40 {
			if index := slices.Index([]int{at(stripe, 0), at(stripe, 1), at(stripe, 2), at(stripe, 3), at(stripe, 4), at(stripe, 5)}, n); index < 0 {
				continue
			}
			gen, b := 1, some(stripe)
			if stripe%3 == 0 {
				gen, b = 2, some(stripe+100)
			}
			l = append(l, carried(stripe, gen, b))
		}
		a.mends(t, what, l...)
		a.same(t, what)

		a, what = everything(t, "15.1"), name("15.1: fell", n)
		a.crash(n)
		if len(a.w.Node(n).Ring().Live()) == 0 {
			t.Errorf("%s: no intents", what)
		}
		a.opens(t, what)
		a.have(t, what, 0, 0, 0, 0, 0, 0, 0, 0)
		a.same(t, what)
	}
}

// mess is a pair with a stripe of each kind.
func mess(t *testing.T) *pair {
	t.Helper()
	a := fresh(t)
	// 1 is right, 2 pends, 4 is in doubt, and pends as 3 where its intents are found.
	a.fine(t, "mess", 1, some(11))
	a.fine(t, "mess", 1, some(12))
	a.fine(t, "mess", 2, some(21))
	a.down(true, 5)
	a.fine(t, "mess", 2, some(22))
	a.down(false, 5)
	a.fine(t, "mess", 4, some(41))
	a.doubtful(t, "mess", 4, some(42))
	a.doubtful(t, "mess", 4, some(43))
	// 6 is right, but elder intents of it are there; one is told twice by one node.
	a.puts(t, 6, 3, some(63), 0, 1, 2, 3, 4, 5)
	a.intends(t, 6, 2, some(62), 5, 1)
	a.intends(t, 6, 1, some(61), 5)
	a.intends(t, 6, 2, some(60), 5)
	// Of 9 a piece lacks, of 12 there are intents alone, of unlike gens; of 20 there is too little.
	a.puts(t, 9, 5, some(95), 0, 1, 3, 4, 5)
	a.intends(t, 12, 7, some(127), 3)
	a.intends(t, 12, 6, some(126), 0, 3, 7)
	a.puts(t, 20, 9, some(209), 1, 2, 5)
	return a
}

// messed is what is asked to mend the mess.
func messed() []asked {
	return slices.Concat(
		carried(2, 2, some(22)), []asked{{0, release(2, 2)}, {1, release(2, 2)}, {7, release(2, 2)}},
		carried(4, 3, some(43)), []asked{{6, release(4, 2)}, {6, release(4, 3)}, {7, release(4, 2)}, {7, release(4, 3)}},
		carried(6, 3, some(63)), []asked{{1, release(6, 2)}, {5, release(6, 2)}, {5, release(6, 1)}, {5, release(6, 2)}},
		carried(9, 5, some(95)),
		carried(12, 7, some(127)), []asked{{0, release(12, 6)}, {3, release(12, 7)}, {3, release(12, 6)}, {7, release(12, 6)}},
	)
}

func TestMess(t *testing.T) {
	a := mess(t)
	a.have(t, "15.1: ahead", 2, 2, 0, 2, 0, 3, 2, 4)
	a.mends(t, "15.1", messed())
	a.have(t, "15.1", 0, 0, 0, 0, 0, 0, 0, 0)
	for stripe, gen := range map[int]int{0: 0, 1: 2, 2: 2, 3: 0, 4: 3, 6: 3, 9: 5, 12: 7, 20: 0, 39: 0} {
		a.is(t, "15.1", stripe, gen, false, false)
	}
	for stripe, want := range map[int][]byte{1: some(12), 2: some(22), 4: some(43), 6: some(63), 9: some(95), 12: some(127), 20: make([]byte, 128)} {
		a.reads(t, "15.1", stripe, want)
	}
	for stripe, gen := range map[int]int{0: 1, 1: 3, 2: 3, 4: 4, 6: 4, 9: 6, 12: 8, 20: 10} {
		a.next(t, "15.1", stripe, gen)
	}
	a.holds(t, "15.1")
}

// cutAt is the text of the error of an Open of the mess that ends behind so many tries, all fine till then.
func cutAt(tries int) string {
	if tries < asking {
		return blame(whom(tries), api.ErrDown)
	}
	ends := []struct{ stripe, releases int }{{2, 3}, {4, 4}, {6, 4}, {9, 0}, {12, 4}}
	tries -= asking
	for _, x := range ends {
		if tries < 6 {
			var not []string
			for k, n := range logs(x.stripe) {
				if 2*k+1 == tries {
					not = append(not, blame(n, api.ErrLost))
				} else if 2*k >= tries {
					not = append(not, blame(n, api.ErrDown))
				}
			}
			return text(x.stripe, not...)
		}
		if tries < 18 {
			return text(x.stripe, "errno 8")
		}
		tries = max(tries-26-x.releases, 0)
	}
	return ""
}

// TestOrder: an Open that ends behind each of its tries tells who was asked what till then, and which error it is.
func TestOrder(t *testing.T) {
	l := messed()
	for tries := range asking + len(l) + 2 {
		a, what := mess(t), name("15.1: tries", tries)
		a.w.Fuse(tries)
		e, err := open.Open(a.w)
		want := cutAt(tries)
		tells(t, what, err, want)
		if (e == nil) != (want != "") {
			t.Errorf("%s: an engine: %v", what, e != nil)
		}
		done := min(tries, asking+len(l))
		if a.w.Sent()-a.m.sent != done || a.w.Dead() != (tries < asking+len(l)) {
			t.Errorf("%s: %d sent", what, a.w.Sent()-a.m.sent)
		}
		for _, x := range l[:max(done-asking, 0)] {
			a.m.nodes[x.n].Do(x.q)
		}
		a.stand(t, what)
		if tries%5 == 0 {
			// Whatever was done till then, the next one goes on with it.
			a.revive()
			a.m.sent = a.w.Sent()
			a.opens(t, what+", again")
			a.reads(t, what+", again", 4, some(43))
		}
	}
}

// TestAskedLost: at each of the Calls that ask all tries are lost, or the node is down: that is Open's error, and nothing is turned.
func TestAskedLost(t *testing.T) {
	for place := range asking {
		for _, fate := range []int{wire.NoReq, wire.NoRep} {
			a, what := mess(t), name("15.1: asked, fate and place", fate, place)
			a.fates(times(place, wire.Fine)...)
			a.fates(times(3, fate)...)
			e, err := open.Open(a.w)
			tells(t, what, err, blame(whom(place), api.ErrLost))
			if _, of := cause.Stripe(err); e != nil || of || !slices.Equal(cause.Nodes(err), []int{whom(place)}) {
				t.Errorf("%s: %v, nodes %v, of a stripe: %v", what, e, cause.Nodes(err), of)
			}
			if a.w.Sent()-a.m.sent != place+3 || a.w.Left() != 0 {
				t.Errorf("%s: %d sent, %d left", what, a.w.Sent()-a.m.sent, a.w.Left())
			}
			a.stand(t, what)
		}
	}
	for n := range 8 {
		a, what := mess(t), name("15.1: down", n)
		a.down(true, n)
		if got := a.open(t, what); got != blame(n, api.ErrDown) {
			t.Errorf("%s: %s", what, got)
		}
		a.holds(t, what)
		a.down(false, n)
		a.opens(t, what+", and back")
	}
}

// TestAskedFell: a node falls ahead of each of the Calls that ask, or all tries but one are lost: it goes well.
func TestAskedFell(t *testing.T) {
	for place := range asking {
		for _, l := range [][]int{{wire.Power}, {wire.NoRep, wire.NoReq}} {
			a, what := mess(t), name("15.1: asked in part, place", place)
			a.fates(append(times(place, wire.Fine), l...)...)
			a.opens(t, what)
			a.reads(t, what, 2, some(22))
			a.reads(t, what, 9, some(95))
		}
	}
}

// TestLost: each of the Calls that mend is lost, or its node falls ahead of it.
func TestLost(t *testing.T) {
	for place := range len(messed()) {
		for _, l := range [][]int{times(3, wire.NoReq), times(3, wire.NoRep), {wire.Power}, {wire.NoRep, wire.Power}} {
			a, what := mess(t), name("15.1: mending, place and fates", append([]int{place}, l...)...)
			a.fates(append(times(asking+place, wire.Fine), l...)...)
			not := a.open(t, what)
			a.holds(t, what)
			if not != "" && !strings.HasSuffix(not, ": errno 8") {
				t.Errorf("%s: %s", what, not)
			}
			a.opens(t, what+", again")
			a.reads(t, what, 12, some(127))
		}
	}
}

// TestWhichRelease: what is Released is what was told, by who told it: where that is not heard, or was not told, it stays.
func TestWhichRelease(t *testing.T) {
	a := fresh(t)
	a.intends(t, 3, 4, some(34), 2, 6)
	a.intends(t, 3, 2, some(32), 2, 4, 5)
	a.intends(t, 3, 1, some(31), 4)
	// Node 5 is heard at its second try.
	l := append(times(5, wire.Fine), wire.NoRep)
	a.fates(append(l, times(3+6*40, wire.Fine)...)...)
	// It is carried, but all Releases of that are lost; and those of what 2 told, of gen 4 and of 2.
	a.fates(times(18, wire.Fine)...)
	a.fates(times(3*8, wire.NoReq)...)
	a.fates(times(3*2, wire.NoReq)...)
	a.opens(t, "15.1: Releases lost")
	a.is(t, "15.1: Releases lost", 3, 4, false, false)
	// 4, 5 and 6 released what they told; 0 and 1 keep what was carried, 2 that and what it told.
	a.have(t, "15.1: Releases lost", 1, 1, 2, 0, 0, 0, 0, 0)
	a.reads(t, "15.1: Releases lost", 3, some(34))
	a.opens(t, "15.1: Releases lost, again")
	a.have(t, "15.1: Releases lost, again", 0, 0, 0, 0, 0, 0, 0, 0)
}

// TestNotMended: behind a stripe that fails none is carried, and no intent is released.
func TestNotMended(t *testing.T) {
	a := fresh(t)
	for _, stripe := range []int{3, 10, 20} {
		a.intends(t, stripe, 2, some(stripe), 3, 4)
		a.intends(t, stripe, 1, some(stripe+1), 4)
	}
	// The first chunk of 10 is lost.
	a.fates(times(asking+26+3+6, wire.Fine)...)
	a.fates(times(3, wire.NoReq)...)
	if got, want := a.open(t, "15.1: 10 pends"), "stripe 10: errno 8"; got != want {
		t.Errorf("15.1: 10 pends: %q, want %q", got, want)
	}
	a.holds(t, "15.1: 10 pends")
	// Of 10 there are those of 3 and 4, and of 7, 0 and 1; of 20 those of 3 and 4.
	a.have(t, "15.1: 10 pends", 1, 1, 0, 2, 4, 0, 0, 1)
	for stripe, want := range map[int]int{3: 6, 10: 5, 20: 0} {
		got := 0
		for k := range 6 {
			if a.stands(stripe, 2, k) {
				got++
			}
		}
		if got != want {
			t.Errorf("15.1: 10 pends: %d pieces of %d, want %d", got, stripe, want)
		}
	}
	a.opens(t, "15.1: 10 pends, again")
	a.have(t, "15.1: 10 pends, again", 0, 0, 0, 0, 0, 0, 0, 0)
}

// TestNotCarried: a stripe whose intents go to fewer than three nodes: that error is Open's.
func TestNotCarried(t *testing.T) {
	a := fresh(t)
	a.puts(t, 3, 1, some(1), 1, 2, 3, 4, 5)
	a.intends(t, 4, 2, some(2), 7)
	a.fates(times(asking, wire.Fine)...)
	// 0 does it; 1's Log is lost, 2's flush; 3 falls ahead of it; 4's, 5's and 6's Logs are lost; 7 does it.
	a.fates(wire.Fine, wire.Fine)
	a.fates(times(3, wire.NoReq)...)
	a.fates(append([]int{wire.Fine}, times(3, wire.NoRep)...)...)
	a.fates(wire.Fine, wire.Power)
	a.fates(times(9, wire.NoReq)...)
	e, err := open.Open(a.w)
	a.m.open()
	tells(t, "15.1: not carried", err, "stripe 3: node 1: errno 5; node 2: errno 5; node 3: errno 5; node 4: errno 5; node 5: errno 5; node 6: errno 5")
	if n, of := cause.Stripe(err); e != nil || n != 3 || !of || cause.Code(err) != api.ErrLost || !slices.Equal(cause.Nodes(err), []int{1, 2, 3, 4, 5, 6}) {
		t.Errorf("15.1: not carried: %v, stripe %d, code %v, nodes %v", e, n, cause.Code(err), cause.Nodes(err))
	}
	a.e = nil
	a.holds(t, "15.1: not carried")
	a.opens(t, "15.1: not carried, again")
	a.reads(t, "15.1: not carried, again", 3, some(1))
}

// TestPends: whichever chunk of it is not done: ErrIO of the stripe, and of no node.
func TestPends(t *testing.T) {
	for k := range 6 {
		a, what := fresh(t), name("15.1: no chunk", k)
		a.intends(t, 3, 1, some(1), 4)
		a.fates(append(times(asking+6+2*k+1, wire.Fine), wire.Power)...)
		e, err := open.Open(a.w)
		a.m.open()
		tells(t, what, err, "stripe 3: errno 8")
		if n, of := cause.Stripe(err); e != nil || n != 3 || !of || cause.Code(err) != api.ErrIO || len(cause.Nodes(err)) != 0 {
			t.Errorf("%s: %v, stripe %d, code %v, nodes %v", what, e, n, cause.Code(err), cause.Nodes(err))
		}
		a.e = nil
		a.holds(t, what)
		a.have(t, what, 1, 1, 1, 0, 1, 0, 0, 0)
		a.opens(t, what+", again")
		a.have(t, what, 0, 0, 0, 0, 0, 0, 0, 0)
	}
}

// TestFull: rings that are full of what pends: a stripe ahead of these can't be carried; one behind them can.
func TestFull(t *testing.T) {
	for _, lacks := range []int{0, 39} {
		a, what := fresh(t), name("15.1: full rings, and lacking", lacks)
		a.puts(t, lacks, 1, some(1), 0, 1, 2, 3, 4)
		for stripe := 1; stripe <= 16; stripe++ {
			a.intends(t, stripe, 3, some(stripe), 0, 1, 2, 3, 4, 5, 6, 7)
		}
		not := a.open(t, what)
		if lacks == 39 {
			if not != "" {
				t.Errorf("%s: %s", what, not)
			}
			continue
		}
		if want := "stripe 0: node 5: errno 6; node 6: errno 6; node 7: errno 6; node 0: errno 6; node 1: errno 6; node 2: errno 6; node 3: errno 6; node 4: errno 6"; not != want {
			t.Errorf("%s: %q, want %q", what, not, want)
		}
		a.have(t, what, 16, 16, 16, 16, 16, 16, 16, 16)
		a.holds(t, what)
	}
}

// crowd is a pair of which stripe 0 lacks a piece, and whose node 5, the first one that is asked for its intents, has a full ring: of 29, which pends as 4; of 30, which has 9 by its pieces; of 31, which pends as 9; of 32, which pends as 4.
func crowd(t *testing.T) *pair {
	t.Helper()
	a := fresh(t)
	a.puts(t, 0, 1, some(1), 0, 1, 2, 3, 4)
	a.puts(t, 30, 9, some(309), 0, 1, 2, 3)
	a.intends(t, 32, 2, some(322), 6)
	for _, i := range [][2]int{{31, 9}, {30, 1}, {31, 1}, {32, 1}, {29, 2}, {30, 2}, {31, 2}, {32, 2}, {29, 3}, {30, 3}, {31, 3}, {32, 3}, {29, 4}, {30, 4}, {31, 4}, {32, 4}} {
		a.intends(t, i[0], i[1], some(i[0]*10+i[1]), 5)
	}
	a.have(t, "15.1: crowd", 0, 0, 0, 0, 0, 16, 1, 0)
	return a
}

// TestSwept: what is known of the stripes that come later counts, too, where a ring is full: what is elder goes, what pends stays.
func TestSwept(t *testing.T) {
	swept := []asked{{5, log(0, 1, some(1))}, {5, intents()}}
	for _, i := range [][2]int{{30, 1}, {31, 1}, {32, 1}, {29, 2}, {30, 2}, {31, 2}, {32, 2}, {29, 3}, {30, 3}, {31, 3}, {32, 3}, {30, 4}, {31, 4}} {
		swept = append(swept, asked{5, release(i[0], i[1])})
	}
	l := append(swept, carried(0, 1, some(1))...)
	for tries := range len(l) {
		a, what := crowd(t), name("15.1: swept, tries", tries)
		a.w.Fuse(asking + tries)
		open.Open(a.w)
		a.follows(t, what, l[:tries])
	}
	a := crowd(t)
	a.opens(t, "15.1: swept")
	for _, i := range [][2]int{{29, 4}, {30, 9}, {31, 9}, {32, 4}} {
		a.is(t, "15.1: swept", i[0], i[1], false, false)
		a.reads(t, "15.1: swept", i[0], some(i[0]*10+i[1]))
	}
	a.have(t, "15.1: swept", 0, 0, 0, 0, 0, 0, 0, 0)
}

// TestIntentsAlone: on none of the nodes, on one, two, three, on all.
func TestIntentsAlone(t *testing.T) {
	for _, nodes := range [][]int{nil, {0}, {4}, {7}, {2, 5}, {6, 7}, {0, 1, 2}, {3, 5, 7}, {0, 1, 2, 3, 4, 5, 6, 7}} {
		a, what := fresh(t), name("15.1: intents alone on", nodes...)
		a.intends(t, 3, 5, some(35), nodes...)
		want, gen := some(35), 5
		if len(nodes) == 0 {
			want, gen = make([]byte, 128), 0
		}
		if len(nodes) == 0 {
			a.mends(t, what)
		} else {
			l := carried(3, 5, some(35))
			for _, n := range nodes {
				l = append(l, asked{n, release(3, 5)})
			}
			a.mends(t, what, l)
		}
		a.is(t, what, 3, gen, false, false)
		a.reads(t, what, 3, want)
		a.next(t, what, 3, gen+1)
	}
}

// TestPieces: each set of a stripe's pieces: four lead back, three do not; only six need nothing.
func TestPieces(t *testing.T) {
	for _, stripe := range []int{0, 3, 38, 39} {
		for size := range 7 {
			for _, set := range each(size) {
				a, what := fresh(t), name("15.1: stripe and pieces", append([]int{stripe}, set...)...)
				a.puts(t, stripe, 4, some(stripe), set...)
				want, gen, next := some(stripe), 4, 5
				switch {
				case size == 6:
					a.mends(t, what)
				case size >= 4:
					a.mends(t, what, carried(stripe, 4, some(stripe)))
				default:
					a.mends(t, what)
					want, gen = make([]byte, 128), 0
				}
				if size == 0 {
					next = 1
				}
				a.is(t, what, stripe, gen, false, false)
				a.reads(t, what, stripe, want)
				a.next(t, what, stripe, next)
			}
		}
	}
}

// TestOtherIndex: a piece whose Index is not the one that its node has of the stripe counts neither for the generation nor for the top.
func TestOtherIndex(t *testing.T) {
	for _, index := range []int{0, 1, 3, 4, 5} {
		a, what := fresh(t), name("15.1: another index", index)
		a.puts(t, 3, 2, some(1), 0, 1, 5)
		a.does(t, at(3, 2), put(3, 2, index, some(1)))
		a.does(t, at(3, 4), put(3, 9, 2, some(1)))
		a.mends(t, what)
		a.is(t, what, 3, 0, false, false)
		a.next(t, what, 3, 3)
	}
	// All six nodes have a piece: of 8 their own ones, of 9 the first one, of 10 the next one's; two that have no chunk of 10 have one, too.
	a, what := fresh(t), "15.1: another index"
	for k := range 6 {
		a.puts(t, 8, 3, some(1), k)
		a.does(t, at(9, k), put(9, 3, 0, some(1)))
		a.does(t, at(10, k), put(10, 3, (k+1)%6, some(1)))
	}
	a.does(t, 0, put(10, 6, 0, some(1)))
	a.does(t, 1, put(10, 6, 1, some(1)))
	a.mends(t, what)
	a.is(t, what, 8, 3, false, false)
	a.is(t, what, 9, 0, false, false)
	a.is(t, what, 10, 0, false, false)
	// Of 9 the first node's counts: it leads to nothing, but it is the top.
	a.next(t, what, 8, 4)
	a.next(t, what, 9, 4)
	a.next(t, what, 10, 1)
}

// TestTwoGens: pieces of an elder generation beside those of a newer one, in places of their own or in the same ones.
func TestTwoGens(t *testing.T) {
	for size := range 7 {
		for _, set := range each(size) {
			for _, newer := range []int{2, 3} {
				a, what := fresh(t), name("15.1: newer gen and pieces", append([]int{newer}, set...)...)
				a.puts(t, 3, 1, some(1), 0, 1, 2, 3, 4, 5)
				a.puts(t, 3, newer, some(newer), set...)
				want, gen, next := some(1), 1, newer+1
				switch elder := 6 - size; {
				case size >= 4:
					want, gen = some(newer), newer
				case newer == 3 && elder < 4:
					want, gen = make([]byte, 128), 0
				}
				if size == 0 {
					next = 2
				}
				lacks := size >= 4 && size < 6 || newer == 3 && gen == 1 && size > 0
				if lacks {
					a.mends(t, what, carried(3, gen, want))
				} else {
					a.mends(t, what)
				}
				a.is(t, what, 3, gen, false, false)
				a.reads(t, what, 3, want)
				if newer == 3 && gen == 1 && size > 0 {
					// What was carried took their places.
					next = 2
				}
				a.next(t, what, 3, next)
			}
		}
	}
}

// TestTop: the next generation is above each one that was told, whether it led back or not, also by one that was overwritten since.
func TestTop(t *testing.T) {
	a := fresh(t)
	a.puts(t, 3, 1, some(1), 0, 1, 2, 3)
	a.puts(t, 3, 9, some(9), 4, 5)
	a.puts(t, 5, 4, some(4), 0)
	a.intends(t, 6, 7, some(67), 1)
	a.puts(t, 6, 8, some(68), 2)
	a.intends(t, 7, 8, some(78), 1)
	a.intends(t, 7, 3, some(73), 0)
	a.puts(t, 7, 6, some(76), 0, 1, 2, 3, 4, 5)
	a.opens(t, "15.1: top")
	for stripe, gens := range map[int][2]int{3: {1, 10}, 5: {0, 5}, 6: {7, 9}, 7: {8, 9}} {
		a.is(t, "15.1: top", stripe, gens[0], false, false)
		a.next(t, "15.1: top", stripe, gens[1])
	}
	a.holds(t, "15.1: top")
}

// TestIntentAndPieces: an intent that is above all pieces, one that is below, one of just theirs.
func TestIntentAndPieces(t *testing.T) {
	for gen := 1; gen <= 7; gen++ {
		for _, size := range []int{0, 3, 4, 5, 6} {
			a, what := fresh(t), name("15.1: intent's gen, pieces of 4", gen, size)
			a.puts(t, 3, 4, some(4), each(size)[0]...)
			b := some(100 + gen)
			if gen == 4 {
				b = some(4)
			}
			a.intends(t, 3, gen, b, 2, 5)
			want, is, top := b, gen, gen
			if size >= 4 && gen < 4 {
				want, is = some(4), 4
			}
			if size > 0 {
				top = max(gen, 4)
			}
			a.mends(t, what, carried(3, is, want), []asked{{2, release(3, gen)}, {5, release(3, gen)}})
			a.is(t, what, 3, is, false, false)
			a.reads(t, what, 3, want)
			if size == 3 && gen == 2 {
				// What was carried took their places.
				top = 2
			}
			a.next(t, what, 3, top+1)
		}
	}
}

// TestIntentFirst: where an intent and pieces of one generation say otherwise, the intent's bytes count; of two intents those of the first that is told.
func TestIntentFirst(t *testing.T) {
	a := fresh(t)
	a.puts(t, 3, 4, some(4), 0, 1, 2, 3, 4, 5)
	a.intends(t, 3, 4, some(5), 6)
	a.intends(t, 3, 4, some(6), 7)
	a.intends(t, 8, 2, some(7), 5)
	a.intends(t, 8, 2, some(8), 1, 5)
	a.mends(t, "15.1: unlike bytes", carried(3, 4, some(5)), []asked{{6, release(3, 4)}, {7, release(3, 4)}}, carried(8, 2, some(8)), []asked{{1, release(8, 2)}, {5, release(8, 2)}, {5, release(8, 2)}})
	a.reads(t, "15.1: unlike bytes", 3, some(5))
	a.reads(t, "15.1: unlike bytes", 8, some(8))
}

// TestPending: what pends is there, whichever two nodes are lost, whichever three had no chunk of it.
func TestPending(t *testing.T) {
	for _, gone := range each(3) {
		for x := range 8 {
			for y := range x {
				a, what := fresh(t), name("15.1: pends, without and lost", append(slices.Clone(gone), x, y)...)
				a.fine(t, what, 3, some(1))
				a.down(true, at(3, gone[0]), at(3, gone[1]), at(3, gone[2]))
				a.fine(t, what, 3, some(2))
				a.is(t, what, 3, 2, true, false)
				a.down(false, at(3, gone[0]), at(3, gone[1]), at(3, gone[2]))
				a.lose(x, y)
				a.opens(t, what)
				a.is(t, what, 3, 2, false, false)
				a.reads(t, what, 3, some(2))
				a.have(t, what, 0, 0, 0, 0, 0, 0, 0, 0)
			}
		}
	}
}

// TestDoubt: what failed is there, where any of its intents is; settled ahead of the fall it is not.
func TestDoubt(t *testing.T) {
	a := fresh(t)
	for _, stripe := range []int{3, 4, 5, 6} {
		a.fine(t, "15.1: doubt", stripe, some(stripe))
	}
	for _, stripe := range []int{3, 4, 5, 7} {
		a.doubtful(t, "15.1: doubt", stripe, some(stripe+10))
	}
	a.reads(t, "15.1: doubt", 4, some(4))
	a.fine(t, "15.1: doubt", 5, some(25))
	// Of 6 no node has an intent.
	a.down(true, 0, 1, 2, 3, 4, 5, 6, 7)
	a.write(t, "15.1: doubt", 6, some(16))
	a.down(false, 0, 1, 2, 3, 4, 5, 6, 7)
	if got := a.e.Doubt(); !slices.Equal(got, []int{3, 6, 7}) {
		t.Errorf("15.1: doubt: %v", got)
	}
	a.opens(t, "15.1: doubt")
	for stripe, want := range map[int]struct {
		gen int
		b   []byte
	}{3: {2, some(13)}, 4: {3, some(4)}, 5: {3, some(25)}, 6: {1, some(6)}, 7: {1, some(17)}} {
		a.is(t, "15.1: doubt", stripe, want.gen, false, false)
		a.reads(t, "15.1: doubt", stripe, want.b)
		a.next(t, "15.1: doubt", stripe, want.gen+1)
	}
	a.holds(t, "15.1: doubt")
}

// TestFails: many writes of a stripe that fail, one behind the other: the last one of which an intent is told.
func TestFails(t *testing.T) {
	for fails := range 6 {
		for _, lost := range [][]int{nil, {6}, {6, 7}} {
			a, what := fresh(t), name("15.1: fails and lost", append([]int{fails}, lost...)...)
			a.fine(t, what, 3, some(0))
			for k := range fails {
				a.doubtful(t, what, 3, some(k+1))
			}
			a.lose(lost...)
			want := fails
			if len(lost) == 2 {
				want = 0
			}
			a.opens(t, what)
			a.is(t, what, 3, want+1, false, false)
			a.reads(t, what, 3, some(want))
			a.next(t, what, 3, want+2)
		}
	}
}

// TestLastGen: behind the greatest generation that there is nothing more is written.
func TestLastGen(t *testing.T) {
	a := fresh(t)
	a.intends(t, 3, api.MaxGen, some(1), 0)
	a.puts(t, 4, api.MaxGen, some(2), 0, 1, 2, 4)
	a.opens(t, "R1: the last gen")
	for _, stripe := range []int{3, 4} {
		a.is(t, "R1: the last gen", stripe, api.MaxGen, false, false)
		if err := a.e.Write(stripe, some(3)); cause.Code(err) != api.ErrArg || len(cause.Nodes(err)) != 8 {
			t.Errorf("R1: the last gen: %v", err)
		}
	}
}

// TestStripes: what there is not has no generation, also behind an Open.
func TestStripes(t *testing.T) {
	a := everything(t, "15.1")
	a.opens(t, "15.1")
	for _, stripe := range []int{-1, 40, 41, 1 << 32, math.MaxInt, math.MinInt} {
		if a.e.Gen(stripe) != 0 {
			t.Errorf("15.1: Gen of %d: %d", stripe, a.e.Gen(stripe))
		}
		if b, err := a.e.Read(stripe); len(b) != 0 || cause.Code(err) != api.ErrArg {
			t.Errorf("15.1: Read of %d: %x, %v", stripe, b, err)
		}
	}
}

// TestOld: R7: an Open over a wire turns nothing that an elder engine over it knows.
func TestOld(t *testing.T) {
	a := fresh(t)
	a.fine(t, "R7", 3, some(1))
	a.doubtful(t, "R7", 3, some(2))
	a.down(true, 3)
	a.fine(t, "R7", 9, some(3))
	a.down(false, 3)
	e, err := open.Open(a.w)
	if err != nil || e == a.e {
		t.Fatalf("R7: Open: %v", err)
	}
	if a.e.Gen(3) != 1 || !slices.Equal(a.e.Doubt(), []int{3}) || !slices.Equal(a.e.Pending(), []int{9}) {
		t.Errorf("R7: Gen %d, Doubt %v, Pending %v", a.e.Gen(3), a.e.Doubt(), a.e.Pending())
	}
	if e.Gen(3) != 2 || len(e.Doubt()) != 0 || len(e.Pending()) != 0 {
		t.Errorf("R7: Gen %d, Doubt %v, Pending %v", e.Gen(3), e.Doubt(), e.Pending())
	}
	if b, err := e.Read(3); err != nil || !bytes.Equal(b, some(2)) {
		t.Errorf("R7: Read: %x, %v", b, err)
	}
}
