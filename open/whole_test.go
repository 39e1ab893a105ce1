package open_test

import (
	"bytes"
	"slices"
	"testing"

	"corbel/api"
	"corbel/engine"
	"corbel/node"
	"corbel/open"
	"corbel/pick"
	"corbel/wire"
)

// weather does one thing to both that nobody asked for: to a node, to the fates, to the fuse.
func (a *pair) weather(t *testing.T, d *dice) {
	t.Helper()
	switch d.roll(6) {
	case 0:
		var l []int
		for range d.roll(60) {
			l = append(l, max(d.roll(24)-20, 0))
		}
		a.fates(l...)
	case 1:
		a.down(d.roll(4) == 0, d.roll(8))
	case 2:
		a.crash(d.roll(8), d.roll(3), d.roll(3))
	case 3:
		if d.roll(3) == 0 {
			a.lose(d.roll(8))
			return
		}
		n, stripe, b := d.roll(8), d.stripe(), some(d.roll(1<<20))
		if d.roll(2) == 0 {
			a.does(t, n, put(stripe, 1+d.roll(12), d.roll(6), b))
		} else if a.w.Node(n).Ring().Free() > 0 {
			a.does(t, n, log(stripe, 1+d.roll(12), b))
		}
	case 4:
		a.fuse(d.roll(300))
	case 5:
		a.revive()
		a.down(false, 0, 1, 2, 3, 4, 5, 6, 7)
	}
}

// step does one thing to both; where there is no engine it is an Open.
func (a *pair) step(t *testing.T, what string, d *dice) {
	t.Helper()
	x := d.roll(16)
	switch {
	case x < 4:
		a.weather(t, d)
	case a.e == nil || x == 4:
		a.open(t, what)
	case x < 10:
		a.write(t, what, d.stripe(), some(d.roll(1<<20)))
	case x < 13:
		a.read(t, what, d.stripe())
	case x == 13:
		a.missing(t, what)
	default:
		a.heal(t, what, d.roll(8)-1)
	}
}

// TestWalk: all of it, in disorder, held against the plain one at each step.
func TestWalk(t *testing.T) {
	for seed := range 40 {
		a, d := fresh(t), &dice{uint32(seed)*7919 + 11}
		for k := range 150 {
			what := name("15.1, 15.2: walk, step", seed, k)
			a.step(t, what, d)
			a.holds(t, what)
			if t.Failed() {
				t.FailNow()
			}
		}
	}
}

// TestCrowdedWalk: the same over rings that are full most of the time.
func TestCrowdedWalk(t *testing.T) {
	for seed := range 20 {
		a, d := fresh(t), &dice{uint32(seed)*104729 + 7}
		for k := range 80 {
			what := name("15.1: crowded walk, step", seed, k)
			for range d.roll(20) {
				n, q := d.roll(8), log(d.stripe(), 1+d.roll(6), some(d.roll(1<<20)))
				a.w.Node(n).Do(q)
				a.m.nodes[n].Do(q)
			}
			a.step(t, what, d)
			a.holds(t, what)
			if t.Failed() {
				t.FailNow()
			}
		}
	}
}

// last is an engine (none while its host is down), and of each stripe what was written last with nil, and what failed behind that and may be found; and which nodes are blank.
type last struct {
	e     *engine.Engine
	w     *wire.Wire
	is    [40][]byte
	maybe [40][][]byte
	blank []int
}

func newLast(t *testing.T) *last {
	t.Helper()
	a := fresh(t)
	l := &last{e: a.e, w: a.w}
	for k := range l.is {
		l.is[k] = make([]byte, 128)
	}
	return l
}

func (l *last) write(stripe int, b []byte) {
	if l.e.Write(stripe, b) == nil {
		l.is[stripe], l.maybe[stripe] = b, nil
	} else {
		l.maybe[stripe] = append(l.maybe[stripe], b)
	}
}

// read: what goes well is what was written last with nil; must: it goes well.
func (l *last) read(t *testing.T, what string, stripe int, must bool) {
	t.Helper()
	b, err := l.e.Read(stripe)
	if err != nil && must {
		t.Errorf("%s: Read of %d: %v", what, stripe, err)
	}
	if err == nil && !bytes.Equal(b, l.is[stripe]) {
		t.Errorf("%s: Read of %d: %x, want %x", what, stripe, b, l.is[stripe])
	}
}

// fall: the host falls; what was not in doubt can't be found otherwise.
func (l *last) fall() {
	if l.e == nil {
		return
	}
	doubt := l.e.Doubt()
	for k := range l.maybe {
		if !slices.Contains(doubt, k) {
			l.maybe[k] = nil
		}
	}
	l.e = nil
}

// open: what is there behind an Open that is nil was written with nil, or failed behind that; all is right then.
func (l *last) open(t *testing.T, what string) bool {
	t.Helper()
	l.fall()
	e, err := open.Open(l.w)
	if err != nil {
		return false
	}
	l.e, l.blank = e, nil
	(&pair{e: e, w: l.w}).right(t, what)
	// What is told below asks the nodes past the wire, as fates may wait.
	for k := range 40 {
		b := l.found(k)
		if !bytes.Equal(b, l.is[k]) && !slices.ContainsFunc(l.maybe[k], func(x []byte) bool { return bytes.Equal(x, b) }) {
			t.Errorf("%s: %d is %x, want %x, or one of %d that failed", what, k, b, l.is[k], len(l.maybe[k]))
		}
		l.is[k], l.maybe[k] = b, nil
	}
	return true
}

// found is what the first four chunks of a stripe say: its bytes.
func (l *last) found(stripe int) []byte {
	if l.e.Gen(stripe) == 0 {
		return make([]byte, 128)
	}
	var b []byte
	for k := range 4 {
		for _, p := range l.w.Node(at(stripe, k)).Do(get(stripe)).Pieces {
			if p.Gen == l.e.Gen(stripe) {
				b = append(b, p.Data...)
			}
		}
	}
	return b
}

// heal: behind one that leaves nothing missing no node is blank.
func (l *last) heal(t *testing.T, what string, most int) {
	t.Helper()
	open.Heal(l.e, most)
	if m, err := open.Missing(l.e); err == nil && len(m) == 0 {
		l.blank = nil
		(&pair{e: l.e, w: l.w}).right(t, what)
	}
}

// lose loses a node, if no more than two are blank then.
func (l *last) lose(n int) {
	if !slices.Contains(l.blank, n) {
		if len(l.blank) == 2 {
			return
		}
		l.blank = append(l.blank, n)
	}
	l.w.Node(n).Lose()
}

// calm: no node is down, no fate waits, no fuse is set.
func (l *last) calm() {
	l.w.Revive()
	for n := range 8 {
		l.w.Down(n, false)
	}
	for l.w.Left() > 0 {
		l.w.Call(0, node.Req{Kind: node.Flush})
	}
}

// gust: calls that will be lost, a node that is down, falls or is lost, a fuse.
func (l *last) gust(d *dice) {
	switch d.roll(6) {
	case 0:
		var f []int
		for range d.roll(80) {
			f = append(f, max(d.roll(14)-10, 0))
		}
		l.w.Fates(append(make([]int, d.roll(3)*100), f...))
	case 1:
		l.w.Down(d.roll(8), d.roll(2) == 0)
	case 2:
		l.w.Node(d.roll(8)).Crash([]int{d.roll(3), d.roll(3)})
	case 3:
		l.lose(d.roll(8))
	case 4:
		l.calm()
	case 5:
		l.w.Revive()
		if d.roll(2) == 0 {
			l.w.Fuse(d.roll(400))
		}
	}
}

// storm: some writes, reads, heals, falls of the host and Opens, while calls are lost and nodes fall and are lost.
func (l *last) storm(t *testing.T, what string, d *dice) {
	t.Helper()
	for range 60 {
		x := d.roll(14)
		switch {
		case x < 3:
			l.gust(d)
		case l.e == nil:
			l.open(t, what)
		case x < 8:
			l.write(d.stripe(), some(d.roll(1<<20)))
		case x < 11:
			l.read(t, what, d.stripe(), false)
		case x == 11:
			l.heal(t, what, d.roll(12))
		default:
			l.fall()
		}
	}
}

// TestTheorem: 15.3: storms, and behind each of them an Open, or a heal, in calm.
func TestTheorem(t *testing.T) {
	opens := 0
	for seed := range 40 {
		l, d := newLast(t), &dice{uint32(seed)*15485863 + 5}
		for run := range 5 {
			what := name("15.3: seed, run", seed, run)
			l.storm(t, what, d)
			l.calm()
			if l.e == nil || d.roll(2) == 0 {
				if !l.open(t, what) {
					t.Errorf("%s: no Open in calm", what)
				}
				opens++
			} else {
				l.heal(t, what, 40)
				if len(l.blank) != 0 {
					t.Errorf("%s: not right behind a heal in calm", what)
				}
			}
			for k := range 40 {
				l.read(t, what, k, true)
			}
			if t.Failed() {
				t.FailNow()
			}
		}
	}
	if opens < 80 {
		t.Errorf("15.3: %d Opens", opens)
	}
}

// TestTheoremEnds: 15.3: a write that ends behind each of its tries, any two nodes lost, an Open that ends behind some of its own, and one that does not.
func TestTheoremEnds(t *testing.T) {
	for tries := range 27 {
		for x := range 8 {
			for y := range x {
				l, what := newLast(t), name("15.3: tries, and lost", tries, x, y)
				l.write(3, some(1))
				l.w.Fuse(tries)
				l.write(3, some(2))
				l.fall()
				l.calm()
				l.lose(x)
				l.w.Fuse(asking + (tries*3+x+y)%30)
				if !l.open(t, what) {
					l.calm()
				}
				l.lose(y)
				l.calm()
				if !l.open(t, what) {
					t.Errorf("%s: no Open", what)
				}
				if tries >= 6 && !bytes.Equal(l.is[3], some(2)) {
					t.Errorf("%s: what was written with nil is not there", what)
				}
				if tries == 0 && !bytes.Equal(l.is[3], some(1)) {
					t.Errorf("%s: what nobody heard of is there", what)
				}
				l.read(t, what, 3, true)
			}
		}
	}
}

// TestTheoremHeal: 15.3: time and again two nodes are lost, and all is made right again by a Heal or an Open.
func TestTheoremHeal(t *testing.T) {
	l, d := newLast(t), &dice{99}
	for k := range 40 {
		l.write(k, some(k))
	}
	for round := range 60 {
		what := name("15.3: round", round)
		x := d.roll(8)
		l.lose(x)
		l.write(d.roll(40), some(d.roll(1<<20)))
		l.lose((x + 1 + d.roll(7)) % 8)
		l.write(d.roll(40), some(d.roll(1<<20)))
		if round%3 == 0 {
			l.open(t, what)
		} else {
			l.heal(t, what, 40)
		}
		if len(l.blank) != 0 {
			t.Errorf("%s: not right again", what)
		}
		for k := range 40 {
			l.read(t, what, k, true)
		}
	}
}

// scribble turns all of b, its spare room too.
func scribble(b []byte) {
	b = b[:cap(b)]
	for k := range b {
		b[k] ^= 0xff
	}
}

// TestApart: R2: what is answered shares nothing with what is kept, nor with other answers.
func TestApart(t *testing.T) {
	a := mess(t)
	a.opens(t, "R2")
	a.lose(0, 3)
	a.down(true, 5)
	a.fine(t, "R2", 9, some(99))
	for range 3 {
		one, _ := open.Missing(a.e)
		two := a.missing(t, "R2")
		a.m.missing()
		if len(two) < 2 {
			t.Fatalf("R2: missing %v", two)
		}
		one = one[:cap(one)]
		for k := range one {
			one[k] = pick.Item{ID: 77, Key: 77}
		}
		a.missing(t, "R2")
		a.holds(t, "R2")
	}
	for _, stripe := range []int{1, 2, 4, 6, 9, 12} {
		b, err := a.e.Read(stripe)
		a.m.read(stripe)
		if err != nil {
			t.Errorf("R2: Read of %d: %v", stripe, err)
		}
		scribble(b)
		a.read(t, "R2", stripe)
	}
	a.down(false, 5)
	a.heal(t, "R2", 99)
	a.reads(t, "R2", 9, some(99))
	a.holds(t, "R2")
}

// TestNodesApart: R2: what nodes told of their rings and pieces ahead of an Open is not what it keeps.
func TestNodesApart(t *testing.T) {
	a := mess(t)
	for n := range 8 {
		for _, i := range a.w.Node(n).Ring().Live() {
			scribble(i.Data)
		}
		for stripe := range 40 {
			for _, p := range a.w.Node(n).Do(get(stripe)).Pieces {
				scribble(p.Data)
			}
		}
	}
	a.opens(t, "R2")
	for n := range 8 {
		a.w.Node(n).Platter().Wipe()
		a.m.nodes[n].Platter().Wipe()
	}
	for _, stripe := range []int{1, 2, 12} {
		a.is(t, "R2", stripe, map[int]int{1: 2, 2: 2, 12: 7}[stripe], false, false)
	}
	a.holds(t, "R2")
}

// TestSame: R4: two that are told the same tell the same.
func TestSame(t *testing.T) {
	a, b := fresh(t), fresh(t)
	for _, x := range []*pair{a, b} {
		d := &dice{815}
		for k := range 200 {
			x.step(t, name("R4: step", k), d)
		}
	}
	for n := range api.Nodes {
		alike(t, "R4", n, a.w.Node(n), b.w.Node(n))
	}
	if (a.e == nil) != (b.e == nil) {
		t.Error("R4: an engine, and none")
	}
}

// TestTwo: R7: two over wires of their own, by turns, know nothing of one another.
func TestTwo(t *testing.T) {
	a, b := fresh(t), fresh(t)
	d, g := &dice{17}, &dice{18}
	for k := range 150 {
		a.step(t, name("R7: one, step", k), d)
		b.step(t, name("R7: the other, step", k), g)
	}
	a.holds(t, "R7: one")
	b.holds(t, "R7: the other")
}
