package wire_test

import (
	"bytes"
	"errors"
	"math"
	"slices"
	"strconv"
	"testing"

	"corbel/api"
	"corbel/cause"
	"corbel/node"
	"corbel/wire"
)

// The greatest gen that there may be, and how many fates wait at most.
const (
	maxGen   = 1 << 40
	maxFates = 1000
)

// data is that many bytes in a disorder that is the same each time.
func data(size, seed int) []byte {
	b, x := make([]byte, size), uint32(seed)
	for k := range b {
		x = x*1664525 + 1013904223
		b[k] = byte(x >> 24)
	}
	return b
}

func get(stripe int) node.Req { return node.Req{Kind: node.Get, Stripe: stripe} }

// put is a Put that is right, if its numbers are.
func put(stripe, gen, index int) node.Req {
	return node.Req{Kind: node.Put, Stripe: stripe, Gen: gen, Index: index, Data: data(32, stripe*1000+gen*7+index)}
}

// log is a Log that is right, if its numbers are.
func log(stripe, gen int) node.Req {
	return node.Req{Kind: node.Log, Stripe: stripe, Gen: gen, Data: data(128, stripe*1000+gen*7)}
}

func flush() node.Req { return node.Req{Kind: node.Flush} }

func intents() node.Req { return node.Req{Kind: node.Intents} }

func release(stripe, gen int) node.Req {
	return node.Req{Kind: node.Release, Stripe: stripe, Gen: gen}
}

func samePiece(a, b api.Piece) bool {
	return a.Stripe == b.Stripe && a.Gen == b.Gen && a.Index == b.Index && string(a.Data) == string(b.Data)
}

func sameIntent(a, b api.Intent) bool {
	return a.Stripe == b.Stripe && a.Gen == b.Gen && string(a.Data) == string(b.Data)
}

func sameRep(a, b node.Rep) bool {
	return a.Code == b.Code && a.Boot == b.Boot && slices.EqualFunc(a.Pieces, b.Pieces, samePiece) && slices.EqualFunc(a.Intents, b.Intents, sameIntent)
}

// noNodes are numbers of which there is no node.
func noNodes() []int {
	return []int{-1, -2, -8, 8, 9, 15, 16, 255, 256, 1 << 32, 1<<32 + 1, -1 << 32, math.MaxInt, math.MinInt}
}

// noFates are numbers of which there is no fate by name.
func noFates() []int {
	return []int{-1, -2, -3, 4, 5, 99, 256, 257, 258, 259, 1<<32 + 1, 1<<32 + 3, math.MaxInt, math.MinInt, math.MinInt + 3}
}

// laidWrong are requests that may not be laid, each for one part of it alone, then for several.
func laidWrong() []node.Req {
	var l []node.Req
	for _, kind := range []int{0, -1, 7, 8, 255, 256, 257, 1<<32 + 1, math.MaxInt, math.MinInt} {
		l = append(l, node.Req{Kind: kind}, node.Req{Kind: kind, Stripe: 3, Gen: 1, Index: 2, Data: data(32, 1)})
	}
	for _, kind := range []int{1, 2, 3, 4, 5, 6} {
		l = append(l, node.Req{Kind: kind, Stripe: -1, Gen: 1}, node.Req{Kind: kind, Stripe: 65536, Gen: 1}, node.Req{Kind: kind, Stripe: math.MaxInt, Gen: 1}, node.Req{Kind: kind, Stripe: math.MinInt})
		l = append(l, node.Req{Kind: kind, Stripe: 3, Gen: -1}, node.Req{Kind: kind, Stripe: 3, Gen: maxGen + 1}, node.Req{Kind: kind, Gen: math.MaxInt}, node.Req{Kind: kind, Gen: math.MinInt})
		l = append(l, node.Req{Kind: kind, Stripe: 3, Gen: 1, Index: -1}, node.Req{Kind: kind, Gen: 1, Index: 256}, node.Req{Kind: kind, Index: math.MaxInt}, node.Req{Kind: kind, Index: math.MinInt})
		l = append(l, node.Req{Kind: kind, Stripe: 3, Gen: 1, Data: data(129, 1)}, node.Req{Kind: kind, Data: data(65536, 1)}, node.Req{Kind: kind, Data: data(65568, 1)})
	}
	return append(l, node.Req{}, node.Req{Kind: 7, Stripe: -1, Gen: -1, Index: -1, Data: data(129, 1)})
}

// codes are requests that a fresh node refuses, though they may be laid.
func codes() []node.Req {
	return []node.Req{
		get(40), get(41), get(65535),
		put(40, 1, 0), put(65535, 1, 0), put(3, 0, 0), put(3, 1, 6), put(3, 1, 255), {Kind: node.Put},
		{Kind: node.Put, Stripe: 3, Gen: 1, Data: data(31, 1)}, {Kind: node.Put, Stripe: 3, Gen: 1, Data: data(128, 1)},
		log(40, 1), log(65535, maxGen), log(3, 0), {Kind: node.Log},
		{Kind: node.Log, Stripe: 3, Gen: 1, Data: data(127, 1)}, {Kind: node.Log, Stripe: 3, Gen: 1, Data: data(32, 1)},
	}
}

// fine are requests of each Kind that are OK, the edges of what may be laid among them.
func fine() []node.Req {
	return []node.Req{
		put(3, 1, 2), put(3, 2, 2), get(3), get(4), log(3, 3), log(0, 1), log(3, 3), intents(), release(0, 1), intents(), flush(), get(3),
		put(39, maxGen, 5), get(39), log(39, maxGen), intents(), release(65535, maxGen), release(39, maxGen), intents(),
		{Kind: node.Get, Stripe: 3, Gen: maxGen, Index: 255, Data: data(128, 1)}, {Kind: node.Intents, Stripe: 65535, Gen: maxGen, Index: 255, Data: data(128, 1)},
		{Kind: node.Flush, Stripe: 65535, Gen: maxGen, Index: 255, Data: data(128, 1)}, {Kind: node.Log, Stripe: 7, Gen: 1, Index: 255, Data: data(128, 1)}, intents(),
	}
}

// refused says by 11.1's own words whether a request may not be laid.
func refused(q node.Req) bool {
	return q.Kind < 1 || q.Kind > 6 || q.Stripe < 0 || q.Stripe > 65535 || q.Gen < 0 || q.Gen > maxGen || q.Index < 0 || q.Index > 255 || len(q.Data) > 128
}

// plain is a wire by lists: its nodes, which are asked past any wire, those that are down, the fates that wait, how many are sent when the wire is dead (below 0: no fuse), and how many were.
type plain struct {
	nodes []*node.Node
	down  []int
	fates []int
	end   int
	dead  bool
	sent  int
}

func newPlain() *plain {
	m := &plain{end: -1}
	for range 8 {
		m.nodes = append(m.nodes, node.New())
	}
	return m
}

// call is what a wire must answer.
func (m *plain) call(n int, q node.Req) (node.Rep, api.Errno) {
	if n < 0 || n > 7 || refused(q) {
		return node.Rep{}, api.ErrArg
	}
	for tries := 1; ; tries++ {
		if slices.Contains(m.down, n) {
			return node.Rep{}, api.ErrDown
		}
		m.dead = m.dead || m.sent == m.end
		if m.dead {
			return node.Rep{}, api.ErrDown
		}
		m.sent++
		fate := 0
		if len(m.fates) > 0 {
			fate, m.fates = m.fates[0], slices.Clone(m.fates[1:])
		}
		if fate == 3 {
			m.nodes[n].Crash(nil)
		}
		if fate != 1 {
			p := m.nodes[n].Do(q)
			if fate != 2 && p.Code != 0 {
				return node.Rep{}, p.Code
			}
			if fate != 2 {
				return p, 0
			}
		}
		if tries == 3 {
			return node.Rep{}, api.ErrLost
		}
	}
}

func (m *plain) setDown(n int, is bool) {
	m.down = slices.DeleteFunc(m.down, func(x int) bool { return x == n })
	if is {
		m.down = append(m.down, n)
	}
}

func (m *plain) addFates(l []int) {
	for _, f := range l {
		if len(m.fates) < maxFates {
			m.fates = append(m.fates, f)
		}
	}
}

func (m *plain) setFuse(n int) {
	m.end = -1
	if n >= 0 {
		m.end = m.sent + n
	}
}

func (m *plain) revive() { m.dead, m.end = false, -1 }

// pair is a wire, and the plain one that it is held against.
type pair struct {
	w *wire.Wire
	m *plain
}

// fresh is a pair that is new.
func fresh() *pair { return &pair{wire.New(), newPlain()} }

// blames checks an error of a Call: that of its node and its Code, and nothing else.
func blames(t *testing.T, what string, err error, n int, want api.Errno) {
	t.Helper()
	var on *cause.On
	if !errors.As(err, &on) || err != error(on) || on.Node != n || on.Err != error(want) {
		t.Fatalf("12.1: %s: %v, not %d of node %d", what, err, want, n)
	}
	text := "node " + strconv.Itoa(n) + ": errno " + strconv.Itoa(int(want))
	if !errors.Is(err, want) || cause.Code(err) != want || !slices.Equal(cause.Nodes(err), []int{n}) || err.Error() != text {
		t.Fatalf("12.1: %s: %v, not %q", what, err, text)
	}
}

// does Calls both, checks that they answer the same, and tells the Code.
func (a *pair) does(t *testing.T, what string, n int, q node.Req) api.Errno {
	t.Helper()
	want, code := a.m.call(n, q)
	got, err := a.w.Call(n, q)
	if code != api.OK {
		blames(t, what, err, n, code)
	} else if err != nil {
		t.Fatalf("12.1: %s: Call(%d, %+v): %v", what, n, q, err)
	}
	if !sameRep(got, want) {
		t.Fatalf("12.1: %s: Call(%d, %+v): %+v, not %+v", what, n, q, got, want)
	}
	a.counts(t, what)
	return code
}

// ends Calls both, and checks the Code that is answered, too.
func (a *pair) ends(t *testing.T, what string, n int, q node.Req, want api.Errno) {
	t.Helper()
	if code := a.does(t, what, n, q); code != want {
		t.Fatalf("12.1: %s: Call(%d, %+v): %d, not %d", what, n, q, code, want)
	}
}

// counts checks what a wire tells of itself.
func (a *pair) counts(t *testing.T, what string) {
	t.Helper()
	if a.w.Sent() != a.m.sent || a.w.Left() != len(a.m.fates) || a.w.Dead() != a.m.dead {
		t.Fatalf("12.1: %s: %d Sent, not %d; %d Left, not %d; Dead %v, not %v", what, a.w.Sent(), a.m.sent, a.w.Left(), len(a.m.fates), a.w.Dead(), a.m.dead)
	}
	for n := range 8 {
		if is := slices.Contains(a.m.down, n); a.w.IsDown(n) != is {
			t.Fatalf("12.2: %s: IsDown(%d): %v", what, n, !is)
		}
	}
}

// holds checks all that a wire and its nodes tell.
func (a *pair) holds(t *testing.T, what string) {
	t.Helper()
	a.counts(t, what)
	for n, want := range a.m.nodes {
		got := a.w.Node(n)
		if got.Boot() != want.Boot() || got.Platter().Writes() != want.Platter().Writes() || !slices.Equal(got.Platter().Pending(), want.Platter().Pending()) {
			t.Fatalf("12.1: %s: node %d has boot %d, not %d; %d Writes, not %d; pending %v, not %v", what, n, got.Boot(), want.Boot(), got.Platter().Writes(), want.Platter().Writes(), got.Platter().Pending(), want.Platter().Pending())
		}
		if !slices.EqualFunc(got.Ring().Live(), want.Ring().Live(), sameIntent) {
			t.Fatalf("12.1: %s: node %d has live %v, not %v", what, n, got.Ring().Live(), want.Ring().Live())
		}
		// One that was never written to has nothing in its blocks.
		if want.Platter().Writes() == 0 {
			continue
		}
		for k := range 96 {
			x, _ := got.Platter().Read(k)
			y, _ := want.Platter().Read(k)
			if !bytes.Equal(x, y) {
				t.Fatalf("12.1: %s: node %d has in block %d %v, not %v", what, n, k, x, y)
			}
		}
	}
}

func (a *pair) down(t *testing.T, n int, is bool) {
	t.Helper()
	a.m.setDown(n, is)
	if !a.w.Down(n, is) {
		t.Fatalf("12.2: Down(%d, %v): false", n, is)
	}
}

func (a *pair) fates(l ...int) {
	a.m.addFates(l)
	a.w.Fates(l)
}

func (a *pair) fuse(n int) {
	a.m.setFuse(n)
	a.w.Fuse(n)
}

func (a *pair) revive() {
	a.m.revive()
	a.w.Revive()
}

// TestNames: fates are numbered from 0 on.
func TestNames(t *testing.T) {
	if got := []int{wire.Fine, wire.NoReq, wire.NoRep, wire.Power}; !slices.Equal(got, []int{0, 1, 2, 3}) {
		t.Errorf("12: fates %v", got)
	}
}

func TestExample(t *testing.T) {
	for n := range 8 {
		w := wire.New()
		w.Fates([]int{wire.NoReq, wire.NoReq, wire.NoReq})
		p, err := w.Call(n, flush())
		blames(t, "three NoReq", err, n, api.ErrLost)
		if !sameRep(p, node.Rep{}) || w.Sent() != 3 || w.Left() != 0 {
			t.Errorf("12.1: three NoReq: %+v, %d Sent, %d Left", p, w.Sent(), w.Left())
		}
	}
}

// TestNew: eight nodes, all new, each another one, none down; nothing waits.
func TestNew(t *testing.T) {
	a := fresh()
	a.holds(t, "a new one")
	var l []*node.Node
	for n := range 8 {
		x := a.w.Node(n)
		if x == nil || slices.Contains(l, x) || a.w.Node(n) != x {
			t.Fatalf("12.2: Node(%d)", n)
		}
		if x.Boot() != 1 || x.Platter().Blocks() != 96 || x.Platter().Writes() != 0 || x.Ring().Free() != 16 {
			t.Errorf("12.1: node %d is not new", n)
		}
		l = append(l, x)
	}
	if a.w.Sent() != 0 || a.w.Left() != 0 || a.w.Dead() {
		t.Errorf("12.1: a new one: %d Sent, %d Left, Dead %v", a.w.Sent(), a.w.Left(), a.w.Dead())
	}
}

// TestFine: each Kind is answered as by the node itself, which does it once, and no other one hears of it.
func TestFine(t *testing.T) {
	for n := range 8 {
		w, twin := wire.New(), node.New()
		for k, q := range fine() {
			want := twin.Do(q)
			got, err := w.Call(n, q)
			if err != nil || want.Code != api.OK || !sameRep(got, want) || w.Sent() != k+1 {
				t.Fatalf("12.1: Call(%d, %+v): %+v %v, not %+v; %d Sent", n, q, got, err, want, w.Sent())
			}
			if x := w.Node(n).Platter(); x.Writes() != twin.Platter().Writes() || !slices.Equal(x.Pending(), twin.Platter().Pending()) {
				t.Fatalf("12.1: Call(%d, %+v): pending %v, not %v", n, q, x.Pending(), twin.Platter().Pending())
			}
		}
		for other := range 8 {
			if x := w.Node(other); other != n && (x.Platter().Writes() != 0 || x.Ring().Free() != 16 || x.Boot() != 1) {
				t.Errorf("12.1: Call(%d): node %d heard of it", n, other)
			}
		}
	}
}

// TestCode: a reply whose Code is not OK is told at once, by its node and that Code.
func TestCode(t *testing.T) {
	for n := range 8 {
		a := fresh()
		for k, q := range codes() {
			a.ends(t, "refused by its node", n, q, api.ErrArg)
			if a.w.Sent() != k+1 {
				t.Errorf("12.1: %d refused by node %d: %d Sent", k+1, n, a.w.Sent())
			}
		}
		a.holds(t, "refused by its node")
		for k := range 16 {
			a.ends(t, "room in its ring", n, log(k, 1), api.OK)
		}
		for k := range 16 {
			a.ends(t, "no room in its ring", n, log(k, 2), api.ErrFull)
			a.ends(t, "live already", n, log(k, 1), api.OK)
		}
		a.ends(t, "no room in its ring, and wrong", n, log(40, 1), api.ErrArg)
		a.ends(t, "another node's ring", (n+1)%8, log(0, 2), api.OK)
		a.holds(t, "no room in its ring")
	}
}

// fated is what comes of a Put under those fates: the Code, how many tries were sent, how many fates are left; the node's boot, how often it did the Put, how many pieces of stripe 4 it has then.
type fated struct {
	fates              []int
	code               api.Errno
	sent, left         int
	boot, times, fours int
}

// fateds are fates at the first, the second and the last try, fewer than tries, and more.
func fateds() []fated {
	const ok, lost = api.OK, api.ErrLost
	return []fated{
		{nil, ok, 1, 0, 1, 1, 1},
		{[]int{0}, ok, 1, 0, 1, 1, 1},
		{[]int{1}, ok, 2, 0, 1, 1, 1},
		{[]int{2}, ok, 2, 0, 1, 2, 1},
		{[]int{3}, ok, 1, 0, 2, 1, 0},
		{[]int{1, 0}, ok, 2, 0, 1, 1, 1},
		{[]int{2, 0}, ok, 2, 0, 1, 2, 1},
		{[]int{1, 1}, ok, 3, 0, 1, 1, 1},
		{[]int{1, 2}, ok, 3, 0, 1, 2, 1},
		{[]int{2, 1}, ok, 3, 0, 1, 2, 1},
		{[]int{2, 2}, ok, 3, 0, 1, 3, 1},
		{[]int{1, 3}, ok, 2, 0, 2, 1, 0},
		{[]int{2, 3}, ok, 2, 0, 2, 2, 0},
		{[]int{1, 1, 0}, ok, 3, 0, 1, 1, 1},
		{[]int{2, 2, 0}, ok, 3, 0, 1, 3, 1},
		{[]int{1, 1, 3}, ok, 3, 0, 2, 1, 0},
		{[]int{1, 2, 3}, ok, 3, 0, 2, 2, 0},
		{[]int{2, 2, 3}, ok, 3, 0, 2, 3, 0},
		{[]int{1, 1, 1}, lost, 3, 0, 1, 0, 1},
		{[]int{1, 1, 2}, lost, 3, 0, 1, 1, 1},
		{[]int{1, 2, 1}, lost, 3, 0, 1, 1, 1},
		{[]int{2, 1, 1}, lost, 3, 0, 1, 1, 1},
		{[]int{2, 1, 2}, lost, 3, 0, 1, 2, 1},
		{[]int{2, 2, 2}, lost, 3, 0, 1, 3, 1},
		{[]int{1, 1, 1, 1}, lost, 3, 1, 1, 0, 1},
		{[]int{2, 2, 2, 0, 1}, lost, 3, 2, 1, 3, 1},
		{[]int{0, 1, 1, 1}, ok, 1, 3, 1, 1, 1},
		{[]int{3, 1}, ok, 1, 1, 2, 1, 0},
		{[]int{1, 0, 3}, ok, 2, 1, 1, 1, 1},
		{[]int{1, 3, 3}, ok, 2, 1, 2, 1, 0},
		{[]int{1, 1, 3, 3}, ok, 3, 1, 2, 1, 0},
	}
}

// TestFates: a Put of gen 2 of stripe 3, whose gen 1 is flushed; gen 1 of stripe 4 is pending then.
func TestFates(t *testing.T) {
	for _, c := range fateds() {
		for n := range 8 {
			w := wire.New()
			for _, q := range []node.Req{put(3, 1, 2), flush(), put(4, 1, 2)} {
				w.Call(n, q)
			}
			w.Fates(c.fates)
			p, err := w.Call(n, put(3, 2, 2))
			if c.code == api.OK && (err != nil || !sameRep(p, node.Rep{Boot: c.boot})) {
				t.Fatalf("12.1: fates %v: %+v %v", c.fates, p, err)
			}
			if c.code != api.OK {
				blames(t, "a call that is lost", err, n, c.code)
			}
			if c.code != api.OK && !sameRep(p, node.Rep{}) {
				t.Errorf("12.1: fates %v: %+v", c.fates, p)
			}
			if w.Sent() != 3+c.sent || w.Left() != c.left || w.Dead() {
				t.Errorf("12.1: fates %v: %d Sent, %d Left", c.fates, w.Sent(), w.Left())
			}
			c.found(t, w.Node(n))
		}
	}
}

// found checks what the node has then.
func (c fated) found(t *testing.T, x *node.Node) {
	t.Helper()
	fours := len(x.Do(get(4)).Pieces)
	if x.Boot() != c.boot || x.Platter().Writes() != 2+c.times || fours != c.fours {
		t.Errorf("12.1: fates %v: boot %d, %d Writes, %d pieces of stripe 4", c.fates, x.Boot(), x.Platter().Writes(), fours)
	}
	want := []int{2, 1}
	if c.times == 0 {
		want = []int{1}
	}
	var gens []int
	for _, p := range x.Do(get(3)).Pieces {
		gens = append(gens, p.Gen)
	}
	if !slices.Equal(gens, want) {
		t.Errorf("12.1: fates %v: gens %v, not %v", c.fates, gens, want)
	}
}

// TestFatesMixed: four fates in each order that there is, and a request of each Kind, one that its node refuses, and one that none hears of.
func TestFatesMixed(t *testing.T) {
	for k := range 5 * 5 * 5 * 5 {
		l := []int{k % 5, k / 5 % 5, k / 25 % 5, k / 125}
		for j, q := range []node.Req{get(3), put(3, 2, 2), log(3, 2), flush(), intents(), release(3, 1), get(40), {Kind: 7}} {
			a, n := fresh(), (k+j)%8
			for _, before := range []node.Req{put(3, 1, 2), log(3, 1), log(5, 1), flush(), log(4, 1), put(4, 1, 2), release(5, 1)} {
				a.does(t, "before", n, before)
			}
			a.fates(l...)
			a.does(t, "mixed", n, q)
			a.holds(t, "mixed")
			a.does(t, "mixed, and what is left", n, intents())
			a.does(t, "mixed, and what is left", (n+1)%8, get(3))
			a.holds(t, "mixed, and what is left")
		}
	}
}

// TestNoSuchFate: a fate that is none of those with names is fine.
func TestNoSuchFate(t *testing.T) {
	for _, fate := range noFates() {
		w, twin := wire.New(), node.New()
		for k, q := range fine() {
			w.Fates([]int{fate})
			got, err := w.Call(2, q)
			if want := twin.Do(q); err != nil || !sameRep(got, want) || w.Sent() != k+1 || w.Left() != 0 {
				t.Errorf("12.1: fate %d: %+v %v, not %+v", fate, got, err, want)
			}
		}
		if w.Node(2).Boot() != 1 || w.Node(2).Platter().Writes() != twin.Platter().Writes() {
			t.Errorf("12.1: fate %d: boot %d", fate, w.Node(2).Boot())
		}
	}
}

// TestPower: the node crashes ahead of what it does, and keeps nothing; what was released is live again.
func TestPower(t *testing.T) {
	for _, c := range []struct {
		q    node.Req
		code api.Errno
		want node.Rep
		then []int // how many pieces of stripes 3 and 4, how many intents there are, one Crash later
	}{
		{get(4), api.OK, node.Rep{Boot: 2}, []int{1, 0, 2}},
		{get(3), api.OK, node.Rep{Boot: 2, Pieces: []api.Piece{{Stripe: 3, Gen: 1, Index: 2, Data: put(3, 1, 2).Data}}}, []int{1, 0, 2}},
		{flush(), api.OK, node.Rep{Boot: 2}, []int{1, 0, 2}},
		{put(3, 2, 2), api.OK, node.Rep{Boot: 2}, []int{1, 0, 2}},
		{intents(), api.OK, node.Rep{Boot: 2, Intents: []api.Intent{{Stripe: 3, Gen: 1, Data: log(3, 1).Data}, {Stripe: 5, Gen: 1, Data: log(5, 1).Data}}}, []int{1, 0, 2}},
		{release(3, 1), api.OK, node.Rep{Boot: 2}, []int{1, 0, 2}},
		{put(40, 1, 1), api.ErrArg, node.Rep{}, []int{1, 0, 2}},
	} {
		w := wire.New()
		for _, q := range []node.Req{put(3, 1, 2), log(3, 1), log(5, 1), flush(), put(4, 1, 2), log(4, 1), release(5, 1)} {
			w.Call(6, q)
		}
		w.Fates([]int{wire.Power})
		p, err := w.Call(6, c.q)
		if cause.Code(err) != c.code || !sameRep(p, c.want) || w.Sent() != 8 || w.Node(6).Boot() != 2 {
			t.Errorf("12.1: Power, %+v: %+v %v, boot %d", c.q, p, err, w.Node(6).Boot())
		}
		w.Node(6).Crash(nil)
		got := []int{len(w.Node(6).Do(get(3)).Pieces), len(w.Node(6).Do(get(4)).Pieces), len(w.Node(6).Do(intents()).Intents)}
		if !slices.Equal(got, c.then) {
			t.Errorf("12.1: Power, %+v, and a Crash: %v, not %v", c.q, got, c.then)
		}
		for n := range 8 {
			if n != 6 && w.Node(n).Boot() != 1 {
				t.Errorf("12.1: Power: node %d crashed", n)
			}
		}
	}
}

// TestArg: of a node that there is not, or a request that may not be laid, nothing is tried, in whatever case the wire is.
func TestArg(t *testing.T) {
	for k, sets := range []func(*pair){
		func(a *pair) {},
		func(a *pair) { a.fates(1, 2, 3) },
		func(a *pair) { a.fates(3) },
		func(a *pair) { a.fuse(0) },
		func(a *pair) { a.fuse(1); a.fates(2) },
		func(a *pair) { a.down(t, 2, true); a.fates(1) },
		func(a *pair) { a.fuse(0); a.w.Call(2, flush()); a.m.call(2, flush()) },
	} {
		a := fresh()
		sets(a)
		before := *a.m
		for _, q := range laidWrong() {
			a.ends(t, "may not be laid", 2, q, api.ErrArg)
			a.ends(t, "may not be laid, of no node", 8, q, api.ErrArg)
		}
		for _, n := range noNodes() {
			for _, q := range []node.Req{put(3, 1, 2), get(3), flush(), get(40)} {
				a.ends(t, "no such node", n, q, api.ErrArg)
			}
		}
		if a.w.Sent() != before.sent || a.w.Left() != len(before.fates) || a.w.Dead() != before.dead {
			t.Errorf("12.1: case %d: a Call that is ErrArg was tried", k)
		}
		a.holds(t, "ErrArg, R3")
		for range 4 {
			a.does(t, "behind ErrArg", 2, put(3, 1, 2))
			a.does(t, "behind ErrArg", 3, put(3, 1, 2))
		}
		a.holds(t, "behind ErrArg")
	}
}

// TestLaidEdges: what may just be laid is sent.
func TestLaidEdges(t *testing.T) {
	for kind := 1; kind <= 6; kind++ {
		for _, q := range []node.Req{{Kind: kind}, {Kind: kind, Stripe: 65535}, {Kind: kind, Gen: maxGen}, {Kind: kind, Index: 255}, {Kind: kind, Data: data(128, 1)}, {Kind: kind, Stripe: 65535, Gen: maxGen, Index: 255, Data: data(128, 1)}} {
			a := fresh()
			a.does(t, "at the edges", 7, q)
			a.does(t, "at the edges", 0, q)
			if a.w.Sent() != 2 {
				t.Errorf("12.1: %+v: %d Sent", q, a.w.Sent())
			}
			a.holds(t, "at the edges")
		}
	}
}

// TestDown: each node, there and back; while it is down nothing is sent to it, no fate is taken, no fuse burns.
func TestDown(t *testing.T) {
	for n := range 8 {
		a := fresh()
		a.down(t, n, false)
		a.holds(t, "not down as before")
		for range 2 {
			a.down(t, n, true)
			a.down(t, n, true)
			a.fuse(1)
			a.fates(wire.NoReq)
			for range 4 {
				a.ends(t, "down", n, put(3, 1, 2), api.ErrDown)
			}
			a.holds(t, "down")
			a.fuse(-1)
			a.ends(t, "another one", (n+1)%8, put(3, 1, 2), api.OK)
			a.down(t, n, false)
			a.ends(t, "down no more", n, put(3, 1, 2), api.OK)
			a.holds(t, "down no more")
		}
	}
	a := fresh()
	for n := range 8 {
		a.down(t, n, true)
		a.counts(t, "one by one")
	}
	for n := range 8 {
		a.ends(t, "all are down", n, flush(), api.ErrDown)
	}
	for _, n := range []int{3, 0, 7, 1, 2, 6, 5, 4} {
		a.down(t, n, false)
		a.counts(t, "back, one by one")
		a.ends(t, "back", n, flush(), api.OK)
	}
}

// TestDownKeeps: a node that is down stays as it was, and does what it is asked past the wire.
func TestDownKeeps(t *testing.T) {
	a := fresh()
	a.does(t, "before", 4, put(3, 1, 2))
	a.down(t, 4, true)
	for _, x := range []*node.Node{a.w.Node(4), a.m.nodes[4]} {
		x.Do(put(3, 2, 2))
	}
	a.holds(t, "asked past the wire")
	a.down(t, 4, false)
	a.ends(t, "up again", 4, get(3), api.OK)
	if p, _ := a.w.Call(4, get(3)); p.Boot != 1 || len(p.Pieces) != 2 {
		t.Errorf("12.2: up again: %+v", p)
	}
}

// TestNoNode: of a node that there is not nothing is told, and nothing turns.
func TestNoNode(t *testing.T) {
	a := fresh()
	a.down(t, 7, true)
	for _, n := range noNodes() {
		for _, is := range []bool{true, false, true} {
			if a.w.Down(n, is) || a.w.IsDown(n) || a.w.Node(n) != nil {
				t.Errorf("12.2: node %d", n)
			}
		}
	}
	a.holds(t, "no such nodes")
	for n := range 7 {
		a.ends(t, "no such nodes", n, flush(), api.OK)
	}
	a.ends(t, "no such nodes", 7, flush(), api.ErrDown)
}

// TestNode: it is the wire's own one.
func TestNode(t *testing.T) {
	w := wire.New()
	for n := range 8 {
		x := w.Node(n)
		x.Do(put(n, 1, 2))
		if p, err := w.Call(n, get(n)); err != nil || len(p.Pieces) != 1 || p.Boot != 1 {
			t.Errorf("12.2: Node(%d): %+v %v", n, p, err)
		}
		x.Lose()
		x.Crash(nil)
		if p, err := w.Call(n, get(n)); err != nil || len(p.Pieces) != 0 || p.Boot != 3 || w.Node(n) != x {
			t.Errorf("12.2: Node(%d), lost: %+v %v", n, p, err)
		}
	}
}

// TestFuse: that many tries are sent, to whatever nodes, then none.
func TestFuse(t *testing.T) {
	for n := range 8 {
		a := fresh()
		a.does(t, "before", 1, flush())
		a.fuse(n)
		a.counts(t, "a fuse is set")
		for k := range n {
			a.ends(t, "the fuse burns", k%3, put(3, k+1, 2), api.OK)
			if a.w.Dead() {
				t.Errorf("12.1: a fuse of %d: dead at %d", n, k)
			}
		}
		a.fates(wire.Power)
		for k := range 5 {
			a.ends(t, "the fuse ended", k%3, put(4, 1, 2), api.ErrDown)
			if !a.w.Dead() || a.w.Sent() != 1+n || a.w.Left() != 1 {
				t.Errorf("12.1: a fuse of %d: Dead %v, %d Sent, %d Left", n, a.w.Dead(), a.w.Sent(), a.w.Left())
			}
		}
		a.holds(t, "the fuse ended")
	}
}

// TestFuseTries: each try burns it, whatever its fate; it may end between two tries of one Call.
func TestFuseTries(t *testing.T) {
	for fuse := -2; fuse <= 5; fuse++ {
		for k := range 4 * 4 * 4 {
			for _, q := range []node.Req{put(3, 1, 2), get(40)} {
				a := fresh()
				a.fuse(fuse)
				a.fates(k%4, k/4%4, k/16)
				for range 3 {
					a.does(t, "a fuse over tries", 5, q)
					a.holds(t, "a fuse over tries")
				}
			}
		}
	}
	for _, c := range []struct {
		fuse, fate, sent, left, times int
		code                          api.Errno
	}{
		{0, wire.NoRep, 0, 5, 0, api.ErrDown}, {1, wire.NoRep, 1, 4, 1, api.ErrDown}, {2, wire.NoRep, 2, 3, 2, api.ErrDown}, {3, wire.NoRep, 3, 2, 3, api.ErrLost}, {4, wire.NoRep, 3, 2, 3, api.ErrLost},
		{1, wire.NoReq, 1, 4, 0, api.ErrDown}, {2, wire.NoReq, 2, 3, 0, api.ErrDown}, {3, wire.NoReq, 3, 2, 0, api.ErrLost}, {-1, wire.NoReq, 3, 2, 0, api.ErrLost},
	} {
		a := fresh()
		a.fuse(c.fuse)
		a.fates(c.fate, c.fate, c.fate, c.fate, c.fate)
		a.ends(t, "it ends between two tries", 5, put(3, 1, 2), c.code)
		if x := a.w.Node(5).Platter().Writes(); a.w.Sent() != c.sent || a.w.Left() != c.left || x != c.times || a.w.Dead() != (c.code == api.ErrDown) {
			t.Errorf("12.1: a fuse of %d: %d Sent, %d Left, %d Writes, Dead %v", c.fuse, a.w.Sent(), a.w.Left(), x, a.w.Dead())
		}
	}
}

// TestFuseDown: a try to a node that is down neither burns the fuse nor finds its end.
func TestFuseDown(t *testing.T) {
	for fuse := range 3 {
		a := fresh()
		a.down(t, 1, true)
		a.fuse(fuse)
		for k := range fuse + 1 {
			for range 3 {
				a.ends(t, "down", 1, flush(), api.ErrDown)
			}
			if a.w.Dead() || a.w.Sent() != k {
				t.Errorf("12.1: a fuse of %d: Dead %v, %d Sent", fuse, a.w.Dead(), a.w.Sent())
			}
			a.does(t, "up", 2, flush())
		}
		if !a.w.Dead() || a.w.Sent() != fuse {
			t.Errorf("12.1: a fuse of %d: Dead %v, %d Sent", fuse, a.w.Dead(), a.w.Sent())
		}
		a.down(t, 1, false)
		a.ends(t, "up, but the wire is dead", 1, flush(), api.ErrDown)
	}
}

// TestFuseAnew: set again it is that from then on; below 0 there is none.
func TestFuseAnew(t *testing.T) {
	for _, c := range [][]int{{0, 3}, {2, 0}, {5, 1}, {1, 5}, {0, -1}, {3, -1}, {3, math.MinInt}, {-1, 2}, {-7, -1}, {2, math.MaxInt}, {-1}, {-2}, {math.MinInt}, {math.MaxInt}, {0, 0, 0, 2}} {
		for burnt := range 3 {
			a := fresh()
			for _, n := range c {
				a.fuse(n)
				for range min(burnt, max(n, 0)) {
					a.ends(t, "burnt", 2, flush(), api.OK)
				}
			}
			for k := range 12 {
				a.does(t, "a fuse set anew", k%8, put(k, 1, 2))
			}
			a.holds(t, "a fuse set anew")
		}
	}
}

// TestFuseDead: a fuse that is set, or taken away, while the wire is dead does not wake it, nor is it left behind Revive.
func TestFuseDead(t *testing.T) {
	for _, n := range []int{-1, 0, 1, 5, math.MaxInt, math.MinInt} {
		a := fresh()
		a.fuse(0)
		a.ends(t, "it ends", 2, flush(), api.ErrDown)
		a.fates(1, 1)
		a.fuse(n)
		for k := range 8 {
			a.ends(t, "a fuse of a dead wire", k, flush(), api.ErrDown)
		}
		a.holds(t, "a fuse of a dead wire")
		a.revive()
		for k := range 8 {
			a.ends(t, "revived", k, flush(), api.OK)
		}
		if a.w.Dead() || a.w.Sent() != 10 {
			t.Errorf("12.2: revived: Dead %v, %d Sent", a.w.Dead(), a.w.Sent())
		}
	}
}

// TestRevive: it is dead no more, no fuse is set; the nodes, those that are down, the fates, what was Sent stay.
func TestRevive(t *testing.T) {
	a := fresh()
	a.revive()
	a.holds(t, "a new one revived")
	a.does(t, "a new one revived", 2, put(3, 1, 2))
	for range 2 {
		a.fuse(2)
		a.down(t, 6, true)
		a.ends(t, "burns", 2, put(3, 2, 2), api.OK)
		a.revive()
		for range 4 {
			a.ends(t, "no fuse is set", 2, flush(), api.OK)
		}
		a.fuse(1)
		a.fates(1, 1, 2, 0)
		a.ends(t, "it ends", 2, put(4, 1, 2), api.ErrDown)
		a.revive()
		a.revive()
		a.holds(t, "revived")
		a.ends(t, "down as before", 6, put(4, 1, 2), api.ErrDown)
		if a.w.Dead() || a.w.Left() != 3 {
			t.Errorf("12.2: revived: %d Left", a.w.Left())
		}
		a.ends(t, "revived", 2, put(4, 1, 2), api.OK)
		a.holds(t, "revived, and called")
	}
	if a.w.Node(2).Boot() != 1 {
		t.Errorf("12.2: revived: boot %d", a.w.Node(2).Boot())
	}
}

// TestFatesBehind: they are appended behind those that wait; none, if there are none.
func TestFatesBehind(t *testing.T) {
	a := fresh()
	for _, l := range [][]int{nil, {}, {1}, {2, 1}, nil, {}, {0}, {3, 2}, {2, 2}, {1, 3, 1}} {
		a.fates(l...)
		a.counts(t, "appended")
	}
	if a.w.Left() != 11 {
		t.Errorf("12.2: %d Left", a.w.Left())
	}
	for k := range 12 {
		a.does(t, "behind one another", k%2, put(k, 1, 2))
		a.fates([]int{wire.NoRep, wire.Power, wire.Fine}[:k%4]...)
		a.holds(t, "behind one another")
	}
}

// TestFatesMost: of more than 1000 that would wait the first ones do.
func TestFatesMost(t *testing.T) {
	// Power is what tells one fate from those around it: which Call finds a boot that is one more.
	marked := func(size int, at ...int) []int {
		l := make([]int, size)
		for _, k := range at {
			l[k] = wire.Power
		}
		return l
	}
	for _, c := range []struct {
		lists [][]int
		left  int
	}{
		{[][]int{marked(999, 0, 998)}, 999},
		{[][]int{marked(1000, 0, 998, 999)}, 1000},
		{[][]int{marked(1001, 999, 1000)}, 1000},
		{[][]int{marked(1001, 998, 1000)}, 1000},
		{[][]int{marked(5000, 0, 999, 1000, 2000, 4999)}, 1000},
		{[][]int{marked(100000, 1, 500, 4000)}, 1000},
		{[][]int{marked(999), {3}, {3}}, 1000},
		{[][]int{marked(999), {0, 3}, {3}}, 1000},
		{[][]int{marked(999), {3, 3, 3}}, 1000},
		{[][]int{marked(1000, 3), {3}}, 1000},
		{[][]int{marked(998, 3), nil, {3}, {}}, 999},
		{[][]int{marked(600, 3), marked(600, 399, 400), marked(600, 0)}, 1000},
		{[][]int{marked(1), marked(2000, 998, 999)}, 1000},
	} {
		a := fresh()
		for _, l := range c.lists {
			a.fates(l...)
		}
		if a.counts(t, "many"); a.w.Left() != c.left {
			t.Errorf("12.2: %d Left, not %d", a.w.Left(), c.left)
		}
		for range 1002 {
			a.does(t, "one of many", 2, get(3))
		}
		if a.holds(t, "all of many"); a.w.Left() != 0 {
			t.Errorf("12.2: %d Left", a.w.Left())
		}
	}
}

// TestFatesRoom: what is taken makes room; what found none is gone for good.
func TestFatesRoom(t *testing.T) {
	a := fresh()
	a.fates(make([]int, 1500)...)
	for k := range 30 {
		a.does(t, "taken", 2, get(3))
		a.counts(t, "taken")
		a.fates([]int{3, 0, 3}[:k%4]...)
		a.counts(t, "room again")
	}
	for range 1010 {
		a.does(t, "taken", 2, get(3))
	}
	a.holds(t, "none waits")
}

// spared is that list, with spare room behind it in which something stands.
func spared[T any](l []T, behind T) []T {
	return slices.Concat(l, []T{behind, behind, behind})[:len(l)]
}

// kept checks that a list that spared made is that one still, its spare room too.
func kept[T comparable](t *testing.T, what string, got, want []T, behind T) {
	t.Helper()
	if !slices.Equal(got, want) || !slices.Equal(got[:len(want)+3][len(want):], []T{behind, behind, behind}) {
		t.Errorf("R2: %s: %v, not %v", what, got[:len(want)+3], want)
	}
}

// TestFatesApart: what was given is as it was, and is not kept.
func TestFatesApart(t *testing.T) {
	a := fresh()
	one, two := spared([]int{1, 3}, 7), spared([]int{1, 1, 1}, 7)
	a.fates(one...)
	a.w.Fates(nil)
	a.fates(two...)
	kept(t, "the first fates", one, []int{1, 3}, 7)
	kept(t, "the fates behind them", two, []int{1, 1, 1}, 7)
	for k := range one[:5] {
		one[:5][k] = wire.Power
	}
	for k := range two[:6] {
		two[:6][k] = wire.Power
	}
	a.ends(t, "the fates turned", 2, put(3, 1, 2), api.OK)
	a.ends(t, "the fates turned", 2, put(3, 2, 2), api.ErrLost)
	if a.holds(t, "the fates turned"); a.w.Node(2).Boot() != 2 {
		t.Errorf("R2: the fates turned: boot %d", a.w.Node(2).Boot())
	}
	kept(t, "the first fates, turned and taken", one, []int{3, 3}, 3)
}

// TestReqApart: a request is as it was, and is not kept.
func TestReqApart(t *testing.T) {
	for _, l := range [][]int{nil, {wire.NoReq}, {wire.NoRep}, {wire.Power}, {wire.NoRep, wire.NoRep, wire.NoRep}, {wire.NoRep, wire.NoReq, wire.Power}} {
		for _, q := range []node.Req{put(3, 1, 2), log(3, 1), put(3, 0, 2), {Kind: node.Log, Data: data(129, 1)}} {
			a := fresh()
			a.fates(l...)
			given := q
			given.Data = spared(q.Data, 0xa5)
			a.m.call(2, q)
			a.w.Call(2, given)
			if kept(t, "the Data of a Call", given.Data, q.Data, 0xa5); given.Kind != q.Kind || given.Stripe != q.Stripe || given.Gen != q.Gen || given.Index != q.Index {
				t.Errorf("R2: %+v, not %+v", given, q)
			}
			for k := range given.Data {
				given.Data[k] ^= 0xff
			}
			a.holds(t, "the Data turned")
			a.does(t, "the Data turned", 2, get(3))
			a.does(t, "the Data turned", 2, intents())
		}
	}
}

// TestRepApart: a reply shares no memory with the node, nor with another reply.
func TestRepApart(t *testing.T) {
	a := fresh()
	for _, q := range []node.Req{put(3, 1, 2), put(3, 2, 2), log(3, 1), log(3, 2)} {
		a.does(t, "before", 2, q)
	}
	for _, l := range [][]int{nil, {wire.NoRep}, {wire.NoReq, wire.NoRep}} {
		for _, q := range []node.Req{get(3), intents()} {
			a.fates(l...)
			a.m.call(2, q)
			p, _ := a.w.Call(2, q)
			for k := range p.Pieces {
				p.Pieces[k].Stripe = 9
				p.Pieces[k].Data[0] ^= 1
			}
			for k := range p.Intents {
				p.Intents[k].Stripe = 9
				p.Intents[k].Data[0] ^= 1
			}
			a.does(t, "the reply turned", 2, q)
			a.holds(t, "the reply turned")
		}
	}
}

// TestTwo: two wires know nothing of each other.
func TestTwo(t *testing.T) {
	a, b := fresh(), fresh()
	for n := range 8 {
		if a.w.Node(n) == b.w.Node(n) {
			t.Errorf("R7: one node %d of two wires", n)
		}
	}
	a.fates(3, 1, 1, 1)
	a.down(t, 5, true)
	b.fates(2, 2)
	for k := range 3 {
		a.does(t, "one of two", k, put(3, 1, 2))
		b.does(t, "the other one", k, put(4, 1, 2))
	}
	a.fuse(0)
	a.ends(t, "one is dead", 2, flush(), api.ErrDown)
	b.ends(t, "the other one is not", 2, flush(), api.OK)
	b.ends(t, "nor is its node down", 5, flush(), api.OK)
	b.fuse(1)
	a.revive()
	b.ends(t, "its fuse burns", 2, flush(), api.OK)
	b.ends(t, "its fuse ended", 2, flush(), api.ErrDown)
	a.ends(t, "revived", 2, flush(), api.OK)
	a.holds(t, "one of two")
	b.holds(t, "the other one")
}

// TestNone: a nil wire, and one that was not made, end each call.
func TestNone(t *testing.T) {
	for _, w := range []*wire.Wire{nil, {}} {
		for n := -1; n < 9; n++ {
			_, err := w.Call(n, flush())
			blames(t, "no wire", err, n, api.ErrArg)
			if w.Node(n) != nil || w.Down(n, true) || w.IsDown(n) {
				t.Errorf("R1: node %d of none", n)
			}
		}
		w.Fates([]int{1, 2, 3})
		w.Fuse(2)
		w.Revive()
		if w.Dead() || w.Sent() != 0 || w == nil && w.Left() != 0 {
			t.Errorf("R1: none: Dead %v, %d Sent, %d Left", w.Dead(), w.Sent(), w.Left())
		}
	}
}

// walk is one of many steps, by a number that is the same each time.
func (a *pair) walk(t *testing.T, x int) {
	t.Helper()
	n, what := x>>8%8, "a walk"
	stripe, gen := x>>16%4, 1+x>>20%4
	switch x % 32 {
	case 0:
		a.fates(x>>12%4, x>>14%4, x>>16%4, x>>18%4)
	case 1:
		a.fates(x >> 12 % 5)
	case 2:
		a.fuse(x>>12%16 - 4)
	case 3:
		a.revive()
	case 4, 5:
		a.down(t, n, x>>12%2 == 0)
	case 6:
		a.w.Node(n).Lose()
		a.m.nodes[n].Lose()
	case 7:
		keep := []int{x >> 12 % 4, x >> 16 % 4}
		a.w.Node(n).Crash(keep)
		a.m.nodes[n].Crash(keep)
	case 8:
		a.does(t, what, noNodes()[n], put(stripe, gen, 2))
	case 9:
		a.does(t, what, n, laidWrong()[x>>12%64])
	case 10:
		a.does(t, what, n, codes()[x>>12%16])
	default:
		l := []node.Req{get(stripe), put(stripe, gen, n%6), log(stripe, gen), log(stripe+4, gen), flush(), intents(), release(stripe, gen)}
		a.does(t, what, n, l[x>>24%len(l)])
	}
}

// TestWalk: many steps, each held against the plain one.
func TestWalk(t *testing.T) {
	for seed := range 20 {
		a, x := fresh(), uint64(seed)
		for k := range 1000 {
			x = x*6364136223846793005 + 1442695040888963407
			a.walk(t, int(x>>24))
			if k%20 == 0 {
				a.revive()
				a.holds(t, "a walk")
			}
		}
		a.holds(t, "a walk's end")
	}
}
