package engine_test

import (
	"bytes"
	"math"
	"slices"
	"strconv"
	"strings"
	"testing"

	"corbel/api"
	"corbel/cause"
	"corbel/coder"
	"corbel/engine"
	"corbel/node"
	"corbel/wire"
)

// data is that many bytes in a disorder that is the same each time.
func data(size, seed int) []byte {
	b, x := make([]byte, size), uint32(seed)*2654435761+1
	for k := range b {
		x = x*1664525 + 1013904223
		b[k] = byte(x >> 24)
	}
	return b
}

// some is a stripe's bytes.
func some(seed int) []byte { return data(128, seed) }

// logs are the nodes that a stripe's intents are asked of, in their order.
func logs(stripe int) []int {
	var l []int
	for k := range 8 {
		l = append(l, (stripe+5+k)%8)
	}
	return l
}

// at is the node of a stripe's chunk.
func at(stripe, index int) int { return (stripe + index) % 8 }

// asked is a request, and who is asked.
type asked struct {
	n int
	q node.Req
}

func get(stripe int) node.Req { return node.Req{Kind: node.Get, Stripe: stripe} }

func log(stripe, gen int, b []byte) node.Req {
	return node.Req{Kind: node.Log, Stripe: stripe, Gen: gen, Data: b}
}

func put(stripe, gen, index int, b []byte) node.Req {
	chunks, _ := coder.New().Encode(b)
	return node.Req{Kind: node.Put, Stripe: stripe, Gen: gen, Index: index, Data: chunks[index]}
}

func flush() node.Req { return node.Req{Kind: node.Flush} }

func intents() node.Req { return node.Req{Kind: node.Intents} }

func release(stripe, gen int) node.Req {
	return node.Req{Kind: node.Release, Stripe: stripe, Gen: gen}
}

// plain does by chapter 14's words what an engine must do, past any wire: its nodes, those that are down, the fates that wait, how many are sent when the wire is dead (below 0: no fuse), how many were; and of each stripe its generation, the next one, whether it is in doubt, whether it pends, and its bytes.
type plain struct {
	nodes []*node.Node
	down  [8]bool
	fates []int
	end   int
	dead  bool
	sent  int
	gen   [40]int
	next  [40]int
	doubt [40]bool
	pends [40]bool
	is    [40][]byte
}

func newPlain() *plain {
	m := &plain{end: -1}
	for range 8 {
		m.nodes = append(m.nodes, node.New())
	}
	for k := range 40 {
		m.next[k], m.is[k] = 1, make([]byte, 128)
	}
	return m
}

// call is what a wire does: three tries, each with its fate.
func (m *plain) call(n int, q node.Req) (node.Rep, api.Errno) {
	for range 3 {
		if m.end == 0 && !m.down[n] {
			m.dead = true
		}
		if m.dead || m.down[n] {
			return node.Rep{}, api.ErrDown
		}
		m.end, m.sent = m.end-1, m.sent+1
		fate := wire.Fine
		if len(m.fates) > 0 {
			fate, m.fates = m.fates[0], m.fates[1:]
		}
		if fate == wire.NoReq {
			continue
		}
		if fate == wire.Power {
			m.nodes[n].Crash(nil)
		}
		if p := m.nodes[n].Do(q); fate != wire.NoRep {
			return p, p.Code
		}
	}
	return node.Rep{}, api.ErrLost
}

// have is a call, and a flush of the same boot.
func (m *plain) have(n int, q node.Req) api.Errno {
	p, code := m.call(n, q)
	if code != api.OK {
		return code
	}
	f, code := m.call(n, flush())
	if code != api.OK || f.Boot != p.Boot {
		return api.ErrLost
	}
	return api.OK
}

// sweep releases what is not above its stripe's generation, but what pends.
func (m *plain) sweep(n int) {
	p, code := m.call(n, intents())
	if code != api.OK {
		return
	}
	for _, i := range p.Intents {
		if i.Gen > m.gen[i.Stripe] || m.pends[i.Stripe] && i.Gen == m.gen[i.Stripe] {
			continue
		}
		m.call(n, release(i.Stripe, i.Gen))
	}
}

// blame is the text of one node's error.
func blame(n int, code api.Errno) string {
	return "node " + strconv.Itoa(n) + ": errno " + strconv.Itoa(int(code))
}

// text is that of a stripe's error, of each node in its order.
func text(stripe int, nodes []string) string {
	return "stripe " + strconv.Itoa(stripe) + ": " + strings.Join(nodes, "; ")
}

// arg is the text of an ErrArg.
func arg(stripe int) string { return text(stripe, []string{"errno 1"}) }

// write is the text of what Write must answer, none where it is nil.
func (m *plain) write(stripe int, b []byte) string {
	if stripe < 0 || stripe > 39 || len(b) != 128 {
		return arg(stripe)
	}
	gen, done := m.next[stripe], 0
	m.next[stripe]++
	var not []string
	for _, n := range logs(stripe) {
		if done == 3 {
			break
		}
		code := m.have(n, log(stripe, gen, b))
		if code == api.ErrFull {
			m.sweep(n)
			code = m.have(n, log(stripe, gen, b))
		}
		if code == api.OK {
			done++
		} else {
			not = append(not, blame(n, code))
		}
	}
	if done < 3 {
		m.doubt[stripe] = true
		return text(stripe, not)
	}
	m.gen[stripe], m.doubt[stripe], m.pends[stripe], m.is[stripe] = gen, false, true, bytes.Clone(b)
	m.chunks(stripe)
	return ""
}

// chunks puts all six, and releases the intents if all did.
func (m *plain) chunks(stripe int) {
	done := 0
	for k := range 6 {
		if m.have(at(stripe, k), put(stripe, m.gen[stripe], k, m.is[stripe])) == api.OK {
			done++
		}
	}
	if done < 6 {
		return
	}
	m.pends[stripe] = false
	for n := range 8 {
		m.call(n, release(stripe, m.gen[stripe]))
	}
}

// fetch is the text of the error, none where four pieces are there.
func (m *plain) fetch(stripe int) string {
	if m.pends[stripe] || m.gen[stripe] == 0 {
		return ""
	}
	var not []string
	done := 0
	for k := range 6 {
		n := at(stripe, k)
		p, code := m.call(n, get(stripe))
		has := func(p api.Piece) bool { return p.Gen == m.gen[stripe] && p.Index == k }
		switch {
		case code != api.OK:
			not = append(not, blame(n, code))
		case !slices.ContainsFunc(p.Pieces, has):
			not = append(not, blame(n, api.ErrNone))
		default:
			done++
		}
		if done == 4 {
			return ""
		}
	}
	return text(stripe, not)
}

// read is what Read must answer, and the text of its error.
func (m *plain) read(stripe int) ([]byte, string) {
	if stripe < 0 || stripe > 39 {
		return nil, arg(stripe)
	}
	if not := m.fetch(stripe); not != "" {
		return nil, not
	}
	if m.doubt[stripe] {
		if not := m.write(stripe, m.is[stripe]); not != "" {
			return nil, not
		}
	}
	return m.is[stripe], ""
}

// those are the stripes of which it is so.
func those(l [40]bool) []int {
	var out []int
	for k, is := range l {
		if is {
			out = append(out, k)
		}
	}
	return out
}

// pair is an engine and its plain one, who are told the same.
type pair struct {
	e *engine.Engine
	w *wire.Wire
	m *plain
}

func fresh(t *testing.T) *pair {
	t.Helper()
	w := wire.New()
	e, err := engine.Blank(w)
	if err != nil || e == nil {
		t.Fatalf("14.1: Blank: %v", err)
	}
	return &pair{e, w, newPlain()}
}

// tells holds an error against its text.
func tells(t *testing.T, what string, err error, want string) {
	t.Helper()
	got := ""
	if err != nil {
		got = err.Error()
	}
	if got != want {
		t.Errorf("%s: %q, want %q", what, got, want)
	}
}

// write writes to both, and tells the text of the error, as it must be.
func (a *pair) write(t *testing.T, what string, stripe int, b []byte) string {
	t.Helper()
	want := a.m.write(stripe, b)
	tells(t, what+": Write", a.e.Write(stripe, b), want)
	return want
}

// read reads of both, and tells the text of the error, as it must be.
func (a *pair) read(t *testing.T, what string, stripe int) string {
	t.Helper()
	want, not := a.m.read(stripe)
	got, err := a.e.Read(stripe)
	tells(t, what+": Read", err, not)
	if !bytes.Equal(got, want) {
		t.Errorf("%s: Read of %d: %x, want %x", what, stripe, got, want)
	}
	return not
}

// fine writes where nothing fails.
func (a *pair) fine(t *testing.T, what string, stripe int, b []byte) {
	t.Helper()
	if not := a.write(t, what, stripe, b); not != "" {
		t.Errorf("%s: Write of %d: %s", what, stripe, not)
	}
}

// does asks a node of both, past the wire.
func (a *pair) does(t *testing.T, n int, q node.Req) {
	t.Helper()
	p, r := a.w.Node(n).Do(q), a.m.nodes[n].Do(q)
	if p.Code != r.Code {
		t.Fatalf("node %d: %v, want %v", n, p.Code, r.Code)
	}
}

func (a *pair) fates(l ...int) {
	a.w.Fates(l)
	a.m.fates = append(a.m.fates, l...)
}

func (a *pair) down(is bool, nodes ...int) {
	for _, n := range nodes {
		a.w.Down(n, is)
		a.m.down[n] = is
	}
}

func (a *pair) lose(nodes ...int) {
	for _, n := range nodes {
		a.w.Node(n).Lose()
		a.m.nodes[n].Lose()
	}
}

func (a *pair) crash(n int, keep ...int) {
	a.w.Node(n).Crash(keep)
	a.m.nodes[n].Crash(keep)
}

func (a *pair) fuse(n int) {
	a.w.Fuse(n)
	a.m.end = n
}

func (a *pair) revive() {
	a.w.Revive()
	a.m.dead, a.m.end = false, -1
}

// alike holds a node against another one: its boot, its blocks, what is pending on them, its intents.
func alike(t *testing.T, what string, n int, got, want *node.Node) {
	t.Helper()
	if got.Boot() != want.Boot() {
		t.Errorf("%s: node %d: boot %d, want %d", what, n, got.Boot(), want.Boot())
	}
	if !slices.Equal(got.Platter().Pending(), want.Platter().Pending()) {
		t.Errorf("%s: node %d: pending %v, want %v", what, n, got.Platter().Pending(), want.Platter().Pending())
	}
	for k := range api.Blocks {
		a, _ := got.Platter().Read(k)
		b, _ := want.Platter().Read(k)
		if !bytes.Equal(a, b) {
			t.Errorf("%s: node %d: block %d: %x, want %x", what, n, k, a, b)
		}
	}
	same := func(a, b api.Intent) bool {
		return a.Stripe == b.Stripe && a.Gen == b.Gen && bytes.Equal(a.Data, b.Data)
	}
	if !slices.EqualFunc(got.Ring().Live(), want.Ring().Live(), same) {
		t.Errorf("%s: node %d: intents %v, want %v", what, n, got.Ring().Live(), want.Ring().Live())
	}
}

// knows holds what the engine tells of its stripes against the plain one.
func (a *pair) knows(t *testing.T, what string) {
	t.Helper()
	for k := range 40 {
		if a.e.Gen(k) != a.m.gen[k] {
			t.Errorf("%s: Gen of %d: %d, want %d", what, k, a.e.Gen(k), a.m.gen[k])
		}
	}
	if got, want := a.e.Pending(), those(a.m.pends); !slices.Equal(got, want) {
		t.Errorf("%s: Pending: %v, want %v", what, got, want)
	}
	if got, want := a.e.Doubt(), those(a.m.doubt); !slices.Equal(got, want) {
		t.Errorf("%s: Doubt: %v, want %v", what, got, want)
	}
}

// holds holds all that there is against the plain one.
func (a *pair) holds(t *testing.T, what string) {
	t.Helper()
	a.knows(t, what)
	if a.w.Sent() != a.m.sent || a.w.Left() != len(a.m.fates) || a.w.Dead() != a.m.dead {
		t.Errorf("%s: sent %d, left %d, dead %v; want %d, %d, %v", what, a.w.Sent(), a.w.Left(), a.w.Dead(), a.m.sent, len(a.m.fates), a.m.dead)
	}
	for n := range 8 {
		alike(t, what, n, a.w.Node(n), a.m.nodes[n])
	}
}

// is holds what is told of a stripe against what stands written here.
func (a *pair) is(t *testing.T, what string, stripe, gen int, pending, doubt bool) {
	t.Helper()
	if a.e.Gen(stripe) != gen || slices.Contains(a.e.Pending(), stripe) != pending || slices.Contains(a.e.Doubt(), stripe) != doubt {
		t.Errorf("%s: stripe %d: gen %d, pending %v, doubt %v; want %d, %v, %v", what, stripe, a.e.Gen(stripe), a.e.Pending(), a.e.Doubt(), gen, pending, doubt)
	}
}

// who has an intent of a stripe's gen, by nodes.
func (a *pair) who(stripe, gen int) []int {
	var l []int
	for n := range 8 {
		for _, i := range a.w.Node(n).Ring().Live() {
			if i.Stripe == stripe && i.Gen == gen {
				l = append(l, n)
			}
		}
	}
	return l
}

// have holds who has an intent of a stripe's gen against what stands written here.
func (a *pair) have(t *testing.T, what string, stripe, gen int, want ...int) {
	t.Helper()
	if got := a.who(stripe, gen); !slices.Equal(got, want) {
		t.Errorf("%s: intents of stripe %d, gen %d: on %v, want %v", what, stripe, gen, got, want)
	}
}

// gens are those of which a node has the piece of a stripe's index, the greatest first.
func (a *pair) gens(stripe, index int) []int {
	var l []int
	for _, p := range a.w.Node(at(stripe, index)).Do(get(stripe)).Pieces {
		if p.Index == index {
			l = append(l, p.Gen)
		}
	}
	return l
}

// times is a fate so often.
func times(n, fate int) []int { return slices.Repeat([]int{fate}, n) }

// noStripes are numbers of which there is no stripe.
func noStripes() []int {
	return []int{-1, -2, -8, -40, 40, 41, 48, 255, 256, 65535, 65536, 1 << 32, 1<<32 + 3, -1 << 32, math.MaxInt, math.MinInt}
}

func TestBlank(t *testing.T) {
	w := wire.New()
	e, err := engine.Blank(w)
	if err != nil || e == nil {
		t.Fatalf("14.1: Blank: %v", err)
	}
	if e.Wire() != w {
		t.Error("14.1: Wire: another one")
	}
	for k := range 40 {
		if e.Gen(k) != 0 {
			t.Errorf("14.1: Gen of %d: %d, want 0", k, e.Gen(k))
		}
		if b, err := e.Read(k); err != nil || !bytes.Equal(b, make([]byte, 128)) {
			t.Errorf("14.1: Read of %d: %x, %v; want bytes of 0", k, b, err)
		}
	}
	if len(e.Pending()) != 0 || len(e.Doubt()) != 0 || w.Sent() != 0 {
		t.Errorf("14.1: Pending %v, Doubt %v, %d sent; want none", e.Pending(), e.Doubt(), w.Sent())
	}
	for _, k := range noStripes() {
		if e.Gen(k) != 0 {
			t.Errorf("14.1: Gen of %d: %d, want 0", k, e.Gen(k))
		}
	}
}

// TestFirst: the next generation of each stripe is 1, whatever others were written.
func TestFirst(t *testing.T) {
	a := fresh(t)
	for k := range 40 {
		a.is(t, "14.1: ahead", k, 0, false, false)
		a.fine(t, "14.1", k, some(k))
		a.is(t, "14.1: behind", k, 1, false, false)
		for index := range 6 {
			if got := a.gens(k, index); !slices.Equal(got, []int{1}) {
				t.Errorf("14.1: gens of stripe %d, index %d: %v, want 1", k, index, got)
			}
		}
	}
	a.holds(t, "14.1")
}

func TestNilWire(t *testing.T) {
	e, err := engine.Blank(nil)
	if e != nil || cause.Code(err) != api.ErrArg {
		t.Errorf("14.1: Blank of nil: %v, %v; want ErrArg", e, err)
	}
}

// TestExample: whichever three nodes that have its chunks are down.
func TestExample(t *testing.T) {
	for x := range 6 {
		for y := range x {
			for z := range y {
				a := fresh(t)
				a.down(true, at(3, x), at(3, y), at(3, z))
				a.fine(t, "14: the example", 3, some(1))
				a.is(t, "14: the example", 3, 1, true, false)
				sent := a.w.Sent()
				if b, err := a.e.Read(3); err != nil || !bytes.Equal(b, some(1)) || a.w.Sent() != sent {
					t.Errorf("14: the example: %x, %v, %d sent", b, err, a.w.Sent()-sent)
				}
			}
		}
	}
}

// written is what is asked by a write of which all goes well, one behind the other.
func written(stripe, gen int, b []byte) []asked {
	var l []asked
	for _, n := range logs(stripe)[:3] {
		l = append(l, asked{n, log(stripe, gen, b)}, asked{n, flush()})
	}
	for k := range 6 {
		l = append(l, asked{at(stripe, k), put(stripe, gen, k, b)}, asked{at(stripe, k), flush()})
	}
	for n := range 8 {
		l = append(l, asked{n, release(stripe, gen)})
	}
	return l
}

// follows: the engine's nodes are as the plain ones that were asked just these.
func (a *pair) follows(t *testing.T, what string, l []asked) {
	t.Helper()
	for _, x := range l {
		a.m.nodes[x.n].Do(x.q)
	}
	for n := range 8 {
		alike(t, what, n, a.w.Node(n), a.m.nodes[n])
	}
}

// cut is the text of the error of a write that ends behind so many tries, all fine till then.
func cut(stripe, tries int) string {
	if tries >= 6 {
		return ""
	}
	var not []string
	for k, n := range logs(stripe) {
		if 2*k+1 == tries {
			not = append(not, blame(n, api.ErrLost))
		} else if 2*k >= tries {
			not = append(not, blame(n, api.ErrDown))
		}
	}
	return text(stripe, not)
}

// TestOrder: a write that ends behind each of its tries tells who was asked what till then.
func TestOrder(t *testing.T) {
	for _, stripe := range []int{0, 3, 5, 38, 39} {
		for tries := range 28 {
			what := "14.2: stripe " + strconv.Itoa(stripe) + ", " + strconv.Itoa(tries) + " tries"
			a := fresh(t)
			a.w.Fuse(tries)
			tells(t, what, a.e.Write(stripe, some(7)), cut(stripe, tries))
			gen := 1
			if tries < 6 {
				gen = 0
			}
			a.is(t, what, stripe, gen, tries >= 6 && tries < 18, tries < 6)
			l := written(stripe, 1, some(7))
			a.follows(t, what, l[:min(tries, 26)])
			if a.w.Sent() != min(tries, 26) || a.w.Dead() != (tries < 26) {
				t.Errorf("%s: %d sent", what, a.w.Sent())
			}
		}
	}
}

// TestWritten: behind a write that went well the six chunks stand there, flushed, and no intent.
func TestWritten(t *testing.T) {
	a := fresh(t)
	for gen := 1; gen <= 4; gen++ {
		for stripe := range 40 {
			b := some(stripe*10 + gen)
			a.fine(t, "14.2", stripe, b)
			a.is(t, "14.2", stripe, gen, false, false)
			chunks, _ := coder.New().Encode(b)
			for k, chunk := range chunks {
				p := a.w.Node(at(stripe, k)).Do(get(stripe)).Pieces
				if len(p) == 0 || p[0].Gen != gen || p[0].Index != k || !bytes.Equal(p[0].Data, chunk) {
					t.Errorf("14.2: stripe %d, gen %d, chunk %d: %v", stripe, gen, k, p)
				}
			}
			a.read(t, "14.3", stripe)
		}
	}
	for n := range 8 {
		if x := a.w.Node(n); len(x.Platter().Pending()) != 0 || len(x.Ring().Live()) != 0 {
			t.Errorf("14.2: node %d: pending %v, intents %v", n, x.Platter().Pending(), x.Ring().Live())
		}
	}
	a.holds(t, "14.2")
	if want := 4 * 40 * (26 + 4); a.w.Sent() != want {
		t.Errorf("14.2: %d sent, want %d", a.w.Sent(), want)
	}
}

// TestCopies: where nodes are down, the next ones have the intent; never more than three.
func TestCopies(t *testing.T) {
	for set := range 1 << 8 {
		a, what := fresh(t), "14.2: nodes down "+strconv.FormatInt(int64(set), 2)
		var have []int
		for _, n := range logs(6) {
			if set>>n&1 == 1 {
				a.down(true, n)
			} else if len(have) < 3 {
				have = append(have, n)
			}
		}
		not := a.write(t, what, 6, some(1))
		slices.Sort(have)
		if (not == "") != (len(have) == 3) {
			t.Errorf("%s: %q", what, not)
		}
		// Only of the two nodes that have no chunk of stripe 6 none is missed.
		if set&^(1<<4|1<<5) != 0 {
			a.have(t, what, 6, 1, have...)
		} else {
			a.have(t, what, 6, 1)
		}
		a.holds(t, what)
	}
}

// lostAt tells by hand what comes of the call of that place in a write of stripe 3, if all its tries are lost: how many are sent, whether it pends, and who has the intent then.
func lostAt(place, fate int) (sent int, pending bool, have []int) {
	flushed := place % 2
	switch {
	case place < 6:
		return 29 + flushed, false, nil
	case place < 18:
		return 19 + flushed, true, []int{0, 1, 2}
	case place < 21 && fate == wire.NoReq:
		// It still has what it did not hear it was to release.
		return 28, false, []int{place - 18}
	}
	return 28, false, nil
}

// TestLost: at each of the calls of a write all tries are lost.
func TestLost(t *testing.T) {
	for place := range 26 {
		for _, fate := range []int{wire.NoReq, wire.NoRep} {
			what := "14.2: fate " + strconv.Itoa(fate) + " of call " + strconv.Itoa(place)
			a := fresh(t)
			a.fates(times(place, wire.Fine)...)
			a.fates(times(3, fate)...)
			a.fine(t, what, 3, some(place))
			sent, pending, have := lostAt(place, fate)
			if a.w.Sent() != sent || a.w.Left() != 0 {
				t.Errorf("%s: %d sent, %d left; want %d, 0", what, a.w.Sent(), a.w.Left(), sent)
			}
			a.is(t, what, 3, 1, pending, false)
			a.have(t, what, 3, 1, have...)
			a.holds(t, what)
			a.read(t, what, 3)
			a.fine(t, what, 3, some(99))
			a.is(t, what, 3, 2, false, false)
			a.have(t, what, 3, 2)
			a.read(t, what, 3)
			a.holds(t, what)
		}
	}
}

// TestTried: at each of the calls the first tries are lost, and one more is answered: nothing comes of it.
func TestTried(t *testing.T) {
	lost := [][]int{{wire.NoReq}, {wire.NoRep}, {wire.NoReq, wire.NoReq}, {wire.NoReq, wire.NoRep}, {wire.NoRep, wire.NoReq}, {wire.NoRep, wire.NoRep}}
	for place := range 26 {
		for _, l := range lost {
			what := "14.2: some tries of call " + strconv.Itoa(place)
			a := fresh(t)
			a.fates(times(place, wire.Fine)...)
			a.fates(l...)
			a.fine(t, what, 3, some(place))
			a.is(t, what, 3, 1, false, false)
			a.have(t, what, 3, 1)
			if a.w.Sent() != 26+len(l) {
				t.Errorf("%s: %d sent, want %d", what, a.w.Sent(), 26+len(l))
			}
			a.holds(t, what)
		}
	}
}

// TestFell: a node falls ahead of each of the calls: only where it is a flush is what came before it gone.
func TestFell(t *testing.T) {
	for place := range 26 {
		what := "14.2: a fall ahead of call " + strconv.Itoa(place)
		a := fresh(t)
		a.fates(append(times(place, wire.Fine), wire.Power)...)
		a.fine(t, what, 3, some(place))
		gone := place%2 == 1 && place < 18
		a.is(t, what, 3, 1, gone && place >= 6, false)
		switch {
		case gone && place < 6:
			// One more node was asked, and hears the Release as all do.
			a.have(t, what, 3, 1)
			if a.w.Sent() != 28 {
				t.Errorf("%s: %d sent, want 28", what, a.w.Sent())
			}
		case gone:
			a.have(t, what, 3, 1, 0, 1, 2)
			if got := a.gens(3, (place-6)/2); len(got) != 0 {
				t.Errorf("%s: its chunk is there: %v", what, got)
			}
		default:
			a.have(t, what, 3, 1)
		}
		a.holds(t, what)
		a.read(t, what, 3)
	}
}

// TestFellHeard: it falls in a later try of a flush, or of what is flushed.
func TestFellHeard(t *testing.T) {
	for _, l := range [][]int{
		{wire.NoRep, wire.Power}, {wire.NoReq, wire.Power}, {wire.Power, wire.Power}, {wire.NoRep, wire.NoRep, wire.Power},
		{wire.Power, wire.NoRep, wire.Power}, {wire.Fine, wire.NoRep, wire.Power}, {wire.Fine, wire.NoReq, wire.Power}, {wire.Power, wire.Power, wire.Power},
	} {
		for place := range 26 {
			a, what := fresh(t), "14.2: a fall near call "+strconv.Itoa(place)
			a.fates(append(times(place, wire.Fine), l...)...)
			a.fine(t, what, 3, some(place))
			a.holds(t, what)
			a.read(t, what, 3)
		}
	}
}

// TestPends: whichever chunk is not done, it pends, and its intents stay with all three.
func TestPends(t *testing.T) {
	for k := range 6 {
		what := "14.2: no chunk " + strconv.Itoa(k)
		a := fresh(t)
		a.fine(t, what, 1, some(1))
		a.down(true, at(1, k))
		a.fine(t, what, 1, some(2))
		a.is(t, what, 1, 2, true, false)
		if got := len(a.who(1, 2)); got != 3 {
			t.Errorf("%s: %d intents, want 3", what, got)
		}
		for other := range 6 {
			want := []int{2, 1}
			if other == k {
				want = want[1:]
			}
			if got := a.gens(1, other); !slices.Equal(got, want) {
				t.Errorf("%s: gens of index %d: %v, want %v", what, other, got, want)
			}
		}
		sent := a.w.Sent()
		a.read(t, what, 1)
		if a.w.Sent() != sent {
			t.Errorf("%s: a Read of what pends asks nodes", what)
		}
		a.down(false, at(1, k))
		old := a.who(1, 2)
		a.fine(t, what, 1, some(3))
		a.is(t, what, 1, 3, false, false)
		a.have(t, what, 1, 3)
		a.have(t, what, 1, 2, old...)
		a.read(t, what, 1)
		a.holds(t, what)
	}
}

// other is a stripe that is blank, whose intents fill a ring and are above its generation.
const other = 30

// fill logs intents of the other stripe on a node, till its ring is full, and flushes them.
func (a *pair) fill(t *testing.T, n int) {
	t.Helper()
	for gen := 1; a.w.Node(n).Ring().Free() > 0; gen++ {
		a.does(t, n, log(other, gen, some(gen)))
	}
	a.does(t, n, flush())
}

// crowd is a pair whose node 5, the first one that is asked for intents of stripe 0, has a full ring: of stripe 1, which has generation 2; of 2, which pends as 2; of 4, which has 1 and is in doubt; and of one that is blank.
func crowd(t *testing.T) *pair {
	t.Helper()
	a := fresh(t)
	a.fine(t, "14.2: crowd", 1, some(11))
	a.fine(t, "14.2: crowd", 1, some(12))
	a.fine(t, "14.2: crowd", 2, some(21))
	a.down(true, 2)
	a.fine(t, "14.2: crowd", 2, some(22))
	a.down(false, 2)
	a.fine(t, "14.2: crowd", 4, some(41))
	a.down(true, 0, 1, 2, 3, 4, 5)
	a.write(t, "14.2: crowd", 4, some(42))
	a.down(false, 0, 1, 2, 3, 4, 5)
	for _, i := range [][2]int{{4, 2}, {1, 2}, {2, 2}, {2, 1}, {9, 1}, {1, 1}, {4, 1}, {1, 3}, {2, 3}} {
		a.does(t, 5, log(i[0], i[1], some(i[0]*10+i[1])))
	}
	// One more of a stripe and gen that there is, with other bytes.
	a.does(t, 5, log(1, 2, some(99)))
	a.fill(t, 5)
	a.is(t, "14.2: crowd", 1, 2, false, false)
	a.is(t, "14.2: crowd", 2, 2, true, false)
	a.is(t, "14.2: crowd", 4, 1, false, true)
	a.is(t, "14.2: crowd", 9, 0, false, false)
	a.holds(t, "14.2: crowd")
	return a
}

// swept is what is asked by a write of stripe 0 over a crowd, by hand.
func swept(b []byte) []asked {
	l := []asked{
		{5, log(0, 1, b)}, {5, intents()},
		{5, release(1, 2)}, {5, release(2, 1)}, {5, release(1, 1)}, {5, release(4, 1)}, {5, release(1, 2)},
	}
	return append(l, written(0, 1, b)...)
}

// TestSweep: a write over a full ring that ends behind each of its tries.
func TestSweep(t *testing.T) {
	for tries := range 35 {
		what := "14.2: swept, " + strconv.Itoa(tries) + " tries"
		a := crowd(t)
		sent := a.w.Sent()
		a.w.Fuse(tries)
		err := a.e.Write(0, some(7))
		if (err == nil) != (tries >= 13) {
			t.Errorf("%s: %v", what, err)
		}
		a.is(t, what, 0, min(max(tries-12, 0), 1), tries >= 13 && tries < 25, tries < 13)
		a.follows(t, what, swept(some(7))[:min(tries, 33)])
		if a.w.Sent()-sent != min(tries, 33) {
			t.Errorf("%s: %d sent", what, a.w.Sent()-sent)
		}
	}
}

// TestSwept: what is kept is what pends, and what is above its stripe's generation, till that is carried.
func TestSwept(t *testing.T) {
	a := crowd(t)
	a.fine(t, "14.2: swept", 0, some(7))
	a.is(t, "14.2: swept", 0, 1, false, false)
	has := func(what string, want ...[2]int) {
		t.Helper()
		for _, i := range want {
			if !slices.Contains(a.who(i[0], i[1]), 5) {
				t.Errorf("14.2: %s: node 5 has none of stripe %d, gen %d", what, i[0], i[1])
			}
		}
		if got := len(a.w.Node(5).Ring().Live()); got != len(want) {
			t.Errorf("14.2: %s: node 5 has %d, want %d", what, got, len(want))
		}
	}
	has("swept", [2]int{4, 2}, [2]int{2, 2}, [2]int{9, 1}, [2]int{1, 3}, [2]int{2, 3}, [2]int{30, 1}, [2]int{30, 2}, [2]int{30, 3}, [2]int{30, 4}, [2]int{30, 5}, [2]int{30, 6})
	// What was in doubt is carried, and of what pends a newer one.
	a.fine(t, "14.2: swept", 4, some(43))
	a.fine(t, "14.2: swept", 2, some(23))
	a.is(t, "14.2: swept", 4, 3, false, false)
	a.is(t, "14.2: swept", 2, 3, false, false)
	a.fill(t, 5)
	a.fine(t, "14.2: swept", 0, some(8))
	has("swept again", [2]int{9, 1}, [2]int{1, 3}, [2]int{30, 1}, [2]int{30, 2}, [2]int{30, 3}, [2]int{30, 4}, [2]int{30, 5}, [2]int{30, 6}, [2]int{30, 7}, [2]int{30, 8}, [2]int{30, 9}, [2]int{30, 10}, [2]int{30, 11}, [2]int{30, 12})
	a.read(t, "14.3", 0)
	a.holds(t, "14.2: swept")
}

// TestSweptOnce: where nothing can be swept, Log is done once more and no more, and the next node is asked.
func TestSweptOnce(t *testing.T) {
	a := fresh(t)
	a.fill(t, 5)
	a.fine(t, "14.2", 0, some(1))
	if a.w.Sent() != 3+26 {
		t.Errorf("14.2: %d sent, want 29", a.w.Sent())
	}
	a.is(t, "14.2", 0, 1, false, false)
	a.have(t, "14.2", 0, 1)
	a.holds(t, "14.2")
	for n := range 8 {
		a.fill(t, n)
	}
	want := "stripe 0: node 5: errno 6; node 6: errno 6; node 7: errno 6; node 0: errno 6; node 1: errno 6; node 2: errno 6; node 3: errno 6; node 4: errno 6"
	if got := a.write(t, "14.2", 0, some(2)); got != want {
		t.Errorf("14.2: %q, want %q", got, want)
	}
	if a.w.Sent() != 3+26+24 {
		t.Errorf("14.2: %d sent, want 53", a.w.Sent())
	}
	a.is(t, "14.2", 0, 1, false, true)
	a.holds(t, "14.2")
}

// TestSweptLost: calls of a sweep, and of the Log behind it, that are lost; five nodes are down, so that each error counts.
func TestSweptLost(t *testing.T) {
	cases := []struct {
		what  string
		fates []int
		want  string
	}{
		{"the first Log lost", times(3, wire.NoReq), "node 5: errno 5"},
		{"Intents lost", append([]int{wire.Fine}, times(3, wire.NoRep)...), "node 5: errno 6"},
		{"each Release lost", append([]int{wire.Fine, wire.Fine}, times(15, wire.NoReq)...), "node 5: errno 6"},
		{"all but one Release lost", append([]int{wire.Fine, wire.Fine}, times(12, wire.NoReq)...), ""},
		{"the first Release lost", append([]int{wire.Fine, wire.Fine}, times(3, wire.NoReq)...), ""},
		{"Log lost once more", append(times(7, wire.Fine), times(3, wire.NoReq)...), "node 5: errno 5"},
		{"its flush lost", append(times(8, wire.Fine), times(3, wire.NoRep)...), "node 5: errno 5"},
		{"a fall ahead of its flush", append(times(8, wire.Fine), wire.Power), "node 5: errno 5"},
	}
	for _, c := range cases {
		a := crowd(t)
		a.down(true, 0, 1, 2, 3, 4)
		a.fates(c.fates...)
		want, gen := "", 1
		if c.want != "" {
			gen = 0
			want = "stripe 0: " + c.want + "; node 0: errno 4; node 1: errno 4; node 2: errno 4; node 3: errno 4; node 4: errno 4"
		}
		if got := a.write(t, "14.2: "+c.what, 0, some(1)); got != want {
			t.Errorf("14.2: %s: %q, want %q", c.what, got, want)
		}
		a.is(t, "14.2: "+c.what, 0, gen, gen == 1, gen == 0)
		a.holds(t, "14.2: "+c.what)
	}
}

// TestLogOnceMore: where Intents is lost no Release goes out, but Log is done once more: here the node has fallen till then, and its ring, never flushed, is empty.
func TestLogOnceMore(t *testing.T) {
	a := fresh(t)
	for gen := range 16 {
		a.does(t, 5, log(other, gen+1, some(gen)))
	}
	a.fates(wire.Fine, wire.NoReq, wire.NoReq, wire.NoReq, wire.Power)
	a.down(true, 0)
	a.fine(t, "14.2", 0, some(1))
	a.have(t, "14.2", 0, 1, 5, 6, 7)
	if got := len(a.w.Node(5).Ring().Live()); got != 1 {
		t.Errorf("14.2: %d intents, want 1", got)
	}
	a.holds(t, "14.2")
}

// TestNotSwept: another error than ErrFull sweeps nothing.
func TestNotSwept(t *testing.T) {
	a := crowd(t)
	had := len(a.w.Node(5).Ring().Live())
	a.fates(times(3, wire.NoReq)...)
	sent := a.w.Sent()
	a.fine(t, "14.2", 0, some(1))
	if a.w.Sent()-sent != 3+26 {
		t.Errorf("14.2: %d sent, want 29", a.w.Sent()-sent)
	}
	if got := len(a.w.Node(5).Ring().Live()); got != had {
		t.Errorf("14.2: %d intents, want %d", got, had)
	}
	a.holds(t, "14.2")
}

// TestFew: each node that did not, in the order of Logs, with its own error.
func TestFew(t *testing.T) {
	a := fresh(t)
	a.fine(t, "14.2", 3, some(1))
	a.down(true, 0, 5, 7)
	a.fill(t, 2)
	// 0 is down, 1 does it, 2 is full and swept in vain, 3's Log is lost, 4's flush, 5 is down, 6 falls ahead of its flush, 7 is down.
	l := append(times(2+3, wire.Fine), times(3, wire.NoReq)...)
	l = append(append(l, wire.Fine), times(3, wire.NoRep)...)
	a.fates(append(l, wire.Fine, wire.Power)...)
	want := "stripe 3: node 0: errno 4; node 2: errno 6; node 3: errno 5; node 4: errno 5; node 5: errno 4; node 6: errno 5; node 7: errno 4"
	err := a.e.Write(3, some(2))
	tells(t, "14.2", err, want)
	a.m.write(3, some(2))
	if n, ok := cause.Stripe(err); n != 3 || !ok || cause.Code(err) != api.ErrDown || !slices.Equal(cause.Nodes(err), []int{0, 2, 3, 4, 5, 6, 7}) {
		t.Errorf("14.2: stripe %d, %v, code %v, nodes %v", n, ok, cause.Code(err), cause.Nodes(err))
	}
	for _, code := range []api.Errno{api.ErrDown, api.ErrLost, api.ErrFull} {
		if !cause.Is(err, code) {
			t.Errorf("14.2: %v is not in it", code)
		}
	}
	if cause.Is(err, api.ErrArg) || cause.Is(err, api.ErrNone) || cause.Is(err, api.ErrIO) {
		t.Errorf("14.2: %v", err)
	}
	a.is(t, "14.2", 3, 1, false, true)
	a.have(t, "14.2", 3, 2, 1, 4)
	a.holds(t, "14.2")
}

// TestOneDid: one node alone has its intent; all others are told.
func TestOneDid(t *testing.T) {
	a := fresh(t)
	for n := range 7 {
		a.down(true, n)
	}
	want := "stripe 1: node 6: errno 4; node 0: errno 4; node 1: errno 4; node 2: errno 4; node 3: errno 4; node 4: errno 4; node 5: errno 4"
	if got := a.write(t, "14.2", 1, some(1)); got != want {
		t.Errorf("14.2: %q, want %q", got, want)
	}
	a.have(t, "14.2", 1, 1, 7)
	a.holds(t, "14.2")
}

// TestArg: no such stripe, and bytes of another length, to both sides.
func TestArg(t *testing.T) {
	a := fresh(t)
	a.fine(t, "14.3", 3, some(1))
	sent := a.w.Sent()
	for _, stripe := range noStripes() {
		for _, b := range [][]byte{some(2), nil, some(2)[:127]} {
			err := a.e.Write(stripe, b)
			tells(t, "14.3: Write", err, arg(stripe))
			if n, ok := cause.Stripe(err); n != stripe || !ok || cause.Code(err) != api.ErrArg || len(cause.Nodes(err)) != 0 {
				t.Errorf("14.3: Write of %d: stripe %d, %v, code %v, nodes %v", stripe, n, ok, cause.Code(err), cause.Nodes(err))
			}
		}
		b, err := a.e.Read(stripe)
		tells(t, "14.3: Read", err, arg(stripe))
		if n, ok := cause.Stripe(err); len(b) != 0 || n != stripe || !ok || cause.Code(err) != api.ErrArg || len(cause.Nodes(err)) != 0 {
			t.Errorf("14.3: Read of %d: %x, stripe %d, %v, code %v, nodes %v", stripe, b, n, ok, cause.Code(err), cause.Nodes(err))
		}
	}
	for _, stripe := range []int{0, 3, 39} {
		for _, size := range []int{0, 1, 16, 32, 127, 129, 160, 256, 128 + 65536} {
			err := a.e.Write(stripe, data(size, 1))
			tells(t, "14.3: Write of "+strconv.Itoa(size)+" bytes", err, arg(stripe))
		}
	}
	if a.w.Sent() != sent {
		t.Errorf("14.3: %d sent, want none", a.w.Sent()-sent)
	}
	a.holds(t, "14.3")
	// None of these used a generation.
	for _, stripe := range []int{0, 3, 39} {
		a.fine(t, "14.3", stripe, some(5))
		a.read(t, "14.3", stripe)
	}
	a.is(t, "14.3", 0, 1, false, false)
	a.is(t, "14.3", 3, 2, false, false)
	a.is(t, "14.3", 39, 1, false, false)
	a.holds(t, "14.3")
}

// TestAgain: each stripe written again and again, and read.
func TestAgain(t *testing.T) {
	a := fresh(t)
	for round := range 5 {
		for k := range 40 {
			stripe := k * 7 % 40
			a.fine(t, "14.3", stripe, some(round*40+k))
			if b, err := a.e.Read(stripe); err != nil || !bytes.Equal(b, some(round*40+k)) {
				t.Errorf("14.3: Read of %d: %x, %v", stripe, b, err)
			}
			a.m.read(stripe)
			a.is(t, "14.3", stripe, round+1, false, false)
		}
	}
	a.holds(t, "14.3")
}

// TestReadCalls: a Read asks index by index, and the last two only for those that are not there.
func TestReadCalls(t *testing.T) {
	for k := range 6 {
		a, what := fresh(t), "14.3: a fall ahead of Get "+strconv.Itoa(k)
		a.fine(t, what, 6, some(1))
		boot := a.w.Node(at(6, k)).Boot()
		sent := a.w.Sent()
		a.fates(append(times(k, wire.Fine), wire.Power)...)
		a.read(t, what, 6)
		want := boot
		if k < 4 {
			want++
		}
		if got := a.w.Node(at(6, k)).Boot(); got != want || a.w.Sent()-sent != 4 {
			t.Errorf("%s: boot %d, want %d; %d sent, want 4", what, got, want, a.w.Sent()-sent)
		}
	}
	for missing := range 1 << 6 {
		a, what := fresh(t), "14.3: Gets of nodes without "+strconv.FormatInt(int64(missing), 2)
		a.fine(t, what, 6, some(1))
		var not []string
		asked, there := 0, 0
		for k := range 6 {
			if missing>>k&1 == 1 {
				a.lose(at(6, k))
			}
			if there == 4 {
				continue
			}
			asked++
			if missing>>k&1 == 1 {
				not = append(not, blame(at(6, k), api.ErrNone))
			} else {
				there++
			}
		}
		want := ""
		if there < 4 {
			want = text(6, not)
		}
		sent := a.w.Sent()
		if got := a.read(t, what, 6); got != want || a.w.Sent()-sent != asked {
			t.Errorf("%s: %q, want %q; %d sent, want %d", what, got, want, a.w.Sent()-sent, asked)
		}
		a.holds(t, what)
	}
}

// TestTwoGone: whichever two nodes are down, lost, or one of each, all stripes are read.
func TestTwoGone(t *testing.T) {
	for x := range 8 {
		for y := range x {
			for way := range 4 {
				a, what := fresh(t), "14.3: nodes "+strconv.Itoa(x)+" and "+strconv.Itoa(y)
				for k := range 40 {
					a.fine(t, what, k, some(k))
				}
				for k, n := range []int{x, y} {
					if way>>k&1 == 1 {
						a.lose(n)
					} else {
						a.down(true, n)
					}
				}
				for k := range 40 {
					if not := a.read(t, what, k); not != "" {
						t.Errorf("%s: Read of %d: %s", what, k, not)
					}
				}
				a.holds(t, what)
			}
		}
	}
}

// TestThreeGone: three nodes down, down, lost and blank: each error, with its node and code.
func TestThreeGone(t *testing.T) {
	a := fresh(t)
	a.fine(t, "14.3", 3, some(1))
	a.down(true, 4, 6, 7)
	if got, want := a.read(t, "14.3", 3), "stripe 3: node 4: errno 4; node 6: errno 4; node 7: errno 4"; got != want {
		t.Errorf("14.3: %q, want %q", got, want)
	}
	a.down(false, 4, 7)
	a.lose(4)
	a.fates(wire.Fine, wire.Fine, wire.NoReq, wire.NoRep, wire.NoReq)
	b, err := a.e.Read(3)
	tells(t, "14.3", err, "stripe 3: node 4: errno 7; node 5: errno 5; node 6: errno 4")
	a.m.read(3)
	if n, ok := cause.Stripe(err); n != 3 || !ok || cause.Code(err) != api.ErrNone || !slices.Equal(cause.Nodes(err), []int{4, 5, 6}) || len(b) != 0 {
		t.Errorf("14.3: stripe %d, %v, code %v, nodes %v, %x", n, ok, cause.Code(err), cause.Nodes(err), b)
	}
	if !cause.Is(err, api.ErrLost) || !cause.Is(err, api.ErrDown) || cause.Is(err, api.ErrArg) {
		t.Errorf("14.3: %v", err)
	}
	// A Read that fails turns nothing: with one node more it goes well.
	a.is(t, "14.3", 3, 1, false, false)
	a.down(false, 6)
	if got := a.read(t, "14.3", 3); got != "" {
		t.Errorf("14.3: %s", got)
	}
	a.holds(t, "14.3")
}

// TestNotThePiece: a node that answers with pieces of another gen, or of another index, has none.
func TestNotThePiece(t *testing.T) {
	a := fresh(t)
	a.fine(t, "14.3", 3, some(1))
	a.fine(t, "14.3", 3, some(2))
	a.lose(3, 4, 5)
	a.does(t, 3, put(3, 1, 0, some(1)))
	a.does(t, 4, put(3, 3, 1, some(3)))
	a.does(t, 4, put(3, 4, 1, some(4)))
	a.does(t, 5, put(3, 2, 3, some(2)))
	if got, want := a.read(t, "14.3", 3), "stripe 3: node 3: errno 7; node 4: errno 7; node 5: errno 7"; got != want {
		t.Errorf("14.3: %q, want %q", got, want)
	}
	a.does(t, 3, put(3, 2, 0, some(2)))
	a.does(t, 6, put(3, 3, 3, some(3)))
	if got := a.read(t, "14.3", 3); got != "" {
		t.Errorf("14.3: %s", got)
	}
	a.holds(t, "14.3")
}

// doubtful writes a stripe that six nodes do not hear of.
func (a *pair) doubtful(t *testing.T, what string, stripe int, b []byte) {
	t.Helper()
	a.down(true, 0, 1, 2, 3, 4, 5)
	if not := a.write(t, what, stripe, b); not == "" {
		t.Errorf("%s: Write of %d went well", what, stripe)
	}
	a.down(false, 0, 1, 2, 3, 4, 5)
}

// TestDoubtBlank: of a stripe of generation 0 that is in doubt, Read writes its bytes of 0.
func TestDoubtBlank(t *testing.T) {
	a := fresh(t)
	a.doubtful(t, "14.3", 7, some(1))
	a.is(t, "14.3", 7, 0, false, true)
	sent := a.w.Sent()
	if b, err := a.e.Read(7); err != nil || !bytes.Equal(b, make([]byte, 128)) || a.w.Sent()-sent != 26 {
		t.Errorf("14.3: %x, %v, %d sent", b, err, a.w.Sent()-sent)
	}
	a.m.read(7)
	a.is(t, "14.3", 7, 2, false, false)
	for k := range 6 {
		if got := a.gens(7, k); !slices.Equal(got, []int{2}) {
			t.Errorf("14.3: gens of index %d: %v, want 2", k, got)
		}
	}
	a.holds(t, "14.3")
	if got := a.read(t, "14.3", 7); got != "" {
		t.Errorf("14.3: %s", got)
	}
}

// TestDoubtRight: of one whose chunks stand there, Read fetches them, and writes them as the next generation.
func TestDoubtRight(t *testing.T) {
	a := fresh(t)
	a.fine(t, "14.3", 7, some(1))
	a.doubtful(t, "14.3", 7, some(2))
	a.doubtful(t, "14.3", 7, some(3))
	a.is(t, "14.3", 7, 1, false, true)
	sent := a.w.Sent()
	if b, err := a.e.Read(7); err != nil || !bytes.Equal(b, some(1)) || a.w.Sent()-sent != 4+26 {
		t.Errorf("14.3: %x, %v, %d sent", b, err, a.w.Sent()-sent)
	}
	a.m.read(7)
	a.is(t, "14.3", 7, 4, false, false)
	a.holds(t, "14.3")
	// The next Read writes nothing.
	sent = a.w.Sent()
	a.read(t, "14.3", 7)
	if a.w.Sent()-sent != 4 {
		t.Errorf("14.3: %d sent, want 4", a.w.Sent()-sent)
	}
}

// TestDoubtPending: of one that pends, Read writes what pends; that it may leave pending.
func TestDoubtPending(t *testing.T) {
	a := fresh(t)
	a.fine(t, "14.3", 7, some(1))
	a.down(true, 7)
	a.fine(t, "14.3", 7, some(2))
	a.doubtful(t, "14.3", 7, some(3))
	a.is(t, "14.3", 7, 2, true, true)
	if b, err := a.e.Read(7); err != nil || !bytes.Equal(b, some(2)) {
		t.Errorf("14.3: %x, %v", b, err)
	}
	a.m.read(7)
	a.is(t, "14.3", 7, 4, true, false)
	a.holds(t, "14.3")
	a.doubtful(t, "14.3", 7, some(4))
	a.down(false, 7)
	a.is(t, "14.3", 7, 4, true, true)
	sent := a.w.Sent()
	if got := a.read(t, "14.3", 7); got != "" || a.w.Sent()-sent != 26 {
		t.Errorf("14.3: %s, %d sent", got, a.w.Sent()-sent)
	}
	a.is(t, "14.3", 7, 6, false, false)
	a.holds(t, "14.3")
}

// TestDoubtNotFetched: where its bytes can't be fetched nothing is written, and no generation is used.
func TestDoubtNotFetched(t *testing.T) {
	a := fresh(t)
	a.fine(t, "14.3", 7, some(1))
	a.doubtful(t, "14.3", 7, some(2))
	a.down(true, 7, 1, 4)
	sent := a.w.Sent()
	if got, want := a.read(t, "14.3", 7), "stripe 7: node 7: errno 4; node 1: errno 4; node 4: errno 4"; got != want || a.w.Sent()-sent != 3 {
		t.Errorf("14.3: %q, want %q; %d sent", got, want, a.w.Sent()-sent)
	}
	a.is(t, "14.3", 7, 1, false, true)
	a.down(false, 7, 1, 4)
	if got := a.read(t, "14.3", 7); got != "" {
		t.Errorf("14.3: %s", got)
	}
	a.is(t, "14.3", 7, 3, false, false)
	a.holds(t, "14.3")
}

// TestDoubtNotWritten: where its Write fails that error is Read's, and a generation is used.
func TestDoubtNotWritten(t *testing.T) {
	a := fresh(t)
	a.fine(t, "14.3", 7, some(1))
	a.doubtful(t, "14.3", 7, some(2))
	a.fates(append(times(4, wire.Fine), times(24, wire.NoReq)...)...)
	b, err := a.e.Read(7)
	want := "stripe 7: node 4: errno 5; node 5: errno 5; node 6: errno 5; node 7: errno 5; node 0: errno 5; node 1: errno 5; node 2: errno 5; node 3: errno 5"
	tells(t, "14.3", err, want)
	if len(b) != 0 {
		t.Errorf("14.3: %x beside an error", b)
	}
	a.m.read(7)
	a.is(t, "14.3", 7, 1, false, true)
	a.holds(t, "14.3")
	if got := a.read(t, "14.3", 7); got != "" {
		t.Errorf("14.3: %s", got)
	}
	a.is(t, "14.3", 7, 4, false, false)
	a.holds(t, "14.3")
}

// TestDoubtWritten: a Write that is carried ends the doubt, too.
func TestDoubtWritten(t *testing.T) {
	a := fresh(t)
	a.fine(t, "14.3", 7, some(1))
	a.doubtful(t, "14.3", 7, some(2))
	a.fine(t, "14.3", 7, some(3))
	a.is(t, "14.3", 7, 3, false, false)
	a.doubtful(t, "14.3", 7, some(4))
	a.down(true, 0)
	a.fine(t, "14.3", 7, some(5))
	a.is(t, "14.3", 7, 5, true, false)
	a.read(t, "14.3", 7)
	a.holds(t, "14.3")
}

// TestNext: a write that fails has used its generation.
func TestNext(t *testing.T) {
	for fails := range 6 {
		a := fresh(t)
		a.fine(t, "14.3", 9, some(1))
		for k := range fails {
			a.doubtful(t, "14.3", 9, some(k))
			a.have(t, "14.3", 9, k+2, 6, 7)
		}
		a.is(t, "14.3", 9, 1, false, fails > 0)
		a.fine(t, "14.3", 9, some(8))
		a.is(t, "14.3", 9, fails+2, false, false)
		a.read(t, "14.3", 9)
		a.holds(t, "14.3")
	}
}

// TestLists: Gen, Pending and Doubt, ahead of, between and behind writes that go otherwise.
func TestLists(t *testing.T) {
	a := fresh(t)
	lists := func(pending, doubt []int) {
		t.Helper()
		if !slices.Equal(a.e.Pending(), pending) || !slices.Equal(a.e.Doubt(), doubt) {
			t.Errorf("14.4: Pending %v, Doubt %v; want %v, %v", a.e.Pending(), a.e.Doubt(), pending, doubt)
		}
		a.knows(t, "14.4")
	}
	lists(nil, nil)
	a.fine(t, "14.4", 17, some(1))
	lists(nil, nil)
	a.down(true, 0)
	// Of 8 and 16 node 0 has the first chunk, of 39 and 15 the second, of 1 and 2 none.
	for _, stripe := range []int{39, 1, 16, 8, 2, 15, 0} {
		a.fine(t, "14.4", stripe, some(stripe))
	}
	lists([]int{0, 8, 15, 16, 39}, nil)
	a.down(false, 0)
	for _, stripe := range []int{38, 16, 0, 5} {
		a.doubtful(t, "14.4", stripe, some(99))
	}
	lists([]int{0, 8, 15, 16, 39}, []int{0, 5, 16, 38})
	a.read(t, "14.4", 16)
	a.fine(t, "14.4", 38, some(4))
	a.fine(t, "14.4", 39, some(4))
	lists([]int{0, 8, 15}, []int{0, 5})
	for k := range 40 {
		a.read(t, "14.4", k)
	}
	lists([]int{8, 15}, nil)
	a.fine(t, "14.4", 15, some(5))
	a.fine(t, "14.4", 8, some(5))
	lists(nil, nil)
	for stripe, gen := range map[int]int{0: 3, 1: 1, 2: 1, 3: 0, 5: 2, 8: 2, 15: 2, 16: 3, 17: 1, 38: 2, 39: 2, 40: 0, -1: 0} {
		if a.e.Gen(stripe) != gen {
			t.Errorf("14.4: Gen of %d: %d, want %d", stripe, a.e.Gen(stripe), gen)
		}
	}
	for _, k := range noStripes() {
		if a.e.Gen(k) != 0 {
			t.Errorf("14.4: Gen of %d: %d, want 0", k, a.e.Gen(k))
		}
	}
	a.holds(t, "14.4")
}

// dice are numbers in a disorder that is the same each time.
type dice struct{ x uint32 }

func (d *dice) roll(n int) int {
	d.x = d.x*1664525 + 1013904223
	return int(d.x>>8) % n
}

// stripe is one of a few more often than one of all.
func (d *dice) stripe() int {
	if d.roll(3) > 0 {
		return d.roll(4) * 13
	}
	return d.roll(40)
}

// step does one thing to both: a write or a read mostly, else a node, the fates or the fuse.
func (a *pair) step(t *testing.T, what string, d *dice) {
	t.Helper()
	switch d.roll(12) {
	case 0, 1, 2, 3:
		a.write(t, what, d.stripe(), some(d.roll(1<<20)))
	case 4, 5, 6:
		a.read(t, what, d.stripe())
	case 7:
		var l []int
		for range d.roll(30) {
			l = append(l, max(d.roll(12)-8, 0))
		}
		a.fates(l...)
	case 8:
		a.down(d.roll(3) == 0, d.roll(8))
	case 9:
		a.crash(d.roll(8), d.roll(3), d.roll(3))
	case 10:
		if d.roll(6) == 0 {
			a.lose(d.roll(8))
			return
		}
		a.does(t, d.roll(8), log(d.stripe(), 1+d.roll(40), some(d.roll(1<<20))))
	case 11:
		if d.roll(3) == 0 {
			a.fuse(d.roll(40))
			return
		}
		a.revive()
	}
}

// TestWalk: all of it, in disorder, held against the plain one at each step.
func TestWalk(t *testing.T) {
	for seed := range 24 {
		a, d := fresh(t), &dice{uint32(seed)*7919 + 3}
		for k := range 250 {
			what := "14.2, 14.3: walk " + strconv.Itoa(seed) + ", step " + strconv.Itoa(k)
			a.step(t, what, d)
			a.holds(t, what)
			if t.Failed() {
				t.FailNow()
			}
		}
	}
}

// TestCrowdedWalk: the same with rings that are full most of the time.
func TestCrowdedWalk(t *testing.T) {
	for seed := range 12 {
		a, d := fresh(t), &dice{uint32(seed)*104729 + 5}
		for k := range 150 {
			what := "14.2: crowded walk " + strconv.Itoa(seed) + ", step " + strconv.Itoa(k)
			for range d.roll(12) {
				n, q := d.roll(8), log(d.stripe(), 1+d.roll(12), some(d.roll(1<<20)))
				a.w.Node(n).Do(q)
				a.m.nodes[n].Do(q)
			}
			a.step(t, what, d)
			a.holds(t, what)
			if t.Failed() {
				t.FailNow()
			}
		}
	}
}

// last is an engine, and of each stripe what was written last with nil.
type last struct {
	e  *engine.Engine
	w  *wire.Wire
	is [40][]byte
}

func newLast(t *testing.T) *last {
	t.Helper()
	a := fresh(t)
	l := &last{e: a.e, w: a.w}
	for k := range l.is {
		l.is[k] = make([]byte, 128)
	}
	return l
}

func (l *last) write(stripe int, b []byte) {
	if l.e.Write(stripe, b) == nil {
		l.is[stripe] = bytes.Clone(b)
	}
}

// read: what goes well is what was written last with nil; must: it goes well.
func (l *last) read(t *testing.T, what string, stripe int, must bool) {
	t.Helper()
	b, err := l.e.Read(stripe)
	if err != nil && must {
		t.Errorf("%s: Read of %d: %v", what, stripe, err)
	}
	if err == nil && !bytes.Equal(b, l.is[stripe]) {
		t.Errorf("%s: Read of %d: %x, want %x", what, stripe, b, l.is[stripe])
	}
}

// calm: no node is down, no fate waits, no fuse is set.
func (l *last) calm() {
	for l.w.Left() > 0 {
		l.w.Down(0, false)
		l.w.Revive()
		l.w.Call(0, flush())
	}
	l.w.Revive()
	for n := range 8 {
		l.w.Down(n, false)
	}
}

// storm: some writes and reads, while calls are lost and nodes fall.
func (l *last) storm(t *testing.T, what string, d *dice) {
	t.Helper()
	for range 30 {
		switch d.roll(9) {
		case 0, 1, 2:
			l.write(d.stripe(), some(d.roll(1<<20)))
		case 3, 4:
			l.read(t, what, d.stripe(), false)
		case 5:
			var f []int
			for range d.roll(40) {
				f = append(f, max(d.roll(8)-4, 0))
			}
			l.w.Fates(f)
		case 6:
			l.w.Down(d.roll(8), d.roll(2) == 0)
		case 7:
			l.w.Node(d.roll(8)).Crash([]int{d.roll(3), d.roll(3)})
		case 8:
			l.w.Revive()
			if d.roll(2) == 0 {
				l.w.Fuse(d.roll(30))
			}
		}
	}
}

// TestTheorem: 14.5: runs of many writes and reads, and behind each any two nodes lost, till all is written anew.
func TestTheorem(t *testing.T) {
	for seed := range 40 {
		l, d := newLast(t), &dice{uint32(seed)*15485863 + 1}
		for run := range 6 {
			what := "14.5: seed " + strconv.Itoa(seed) + ", run " + strconv.Itoa(run)
			l.storm(t, what, d)
			x := d.roll(8)
			l.w.Node(x).Lose()
			l.storm(t, what, d)
			y := (x + 1 + d.roll(7)) % 8
			l.w.Node(y).Lose()
			l.storm(t, what, d)
			l.calm()
			for k := range 40 {
				l.read(t, what, k, true)
			}
			for k := range 40 {
				l.write(k, l.is[k])
			}
			if len(l.e.Pending()) != 0 || len(l.e.Doubt()) != 0 {
				t.Errorf("%s: Pending %v, Doubt %v in calm", what, l.e.Pending(), l.e.Doubt())
			}
		}
	}
}

// TestLostBehind: 14.5: behind a write of which any one call was lost, any two nodes are.
func TestLostBehind(t *testing.T) {
	for place := range 26 {
		for x := range 8 {
			for y := range x {
				l, what := newLast(t), "14.5: call "+strconv.Itoa(place)+" lost, then nodes "+strconv.Itoa(x)+" and "+strconv.Itoa(y)
				l.write(3, some(1))
				l.w.Fates(append(times(place, wire.Fine), times(3, wire.NoReq+place%2)...))
				l.write(3, some(2))
				l.w.Node(x).Lose()
				l.w.Node(y).Lose()
				l.read(t, what, 3, true)
				if !bytes.Equal(l.is[3], some(2)) {
					t.Errorf("%s: the write failed", what)
				}
			}
		}
	}
}

// guarded is b with spare room behind it.
func guarded(b []byte) []byte { return append(bytes.Clone(b), 0xa5, 0xa5, 0xa5)[:len(b)] }

// scribble turns all of b, its spare room too.
func scribble(b []byte) {
	b = b[:cap(b)]
	for k := range b {
		b[k] ^= 0xff
	}
}

// TestGivenApart: R2: what is handed in is not changed, and not kept, whether it pends or not, is carried or not.
func TestGivenApart(t *testing.T) {
	for _, down := range [][]int{nil, {3}, {3, 4, 5, 6, 7, 0}} {
		a := fresh(t)
		a.fine(t, "R2", 3, some(1))
		a.down(true, down...)
		b := guarded(some(2))
		a.write(t, "R2", 3, b)
		if !bytes.Equal(b, some(2)) || !bytes.Equal(b[:131], append(some(2), 0xa5, 0xa5, 0xa5)) {
			t.Errorf("R2: what was handed in was changed: %x", b[:131])
		}
		scribble(b)
		a.holds(t, "R2")
		a.down(false, down...)
		a.read(t, "R2", 3)
		a.holds(t, "R2")
	}
}

// TestToldApart: R2: what is answered shares nothing with what is kept, nor with other answers.
func TestToldApart(t *testing.T) {
	a := fresh(t)
	a.fine(t, "R2", 1, some(1))
	a.down(true, 3)
	a.fine(t, "R2", 3, some(3))
	a.fine(t, "R2", 2, some(2))
	a.down(false, 3)
	a.doubtful(t, "R2", 5, some(5))
	a.doubtful(t, "R2", 4, some(5))
	// Of 0 nothing was written, 1 is right, 3 pends, 5 is in doubt.
	for _, stripe := range []int{0, 1, 3, 5, 3} {
		b, err := a.e.Read(stripe)
		again, other := a.e.Read(stripe)
		if err != nil || other != nil {
			t.Errorf("R2: Read of %d: %v, %v", stripe, err, other)
		}
		scribble(b)
		if !bytes.Equal(again, a.m.is[stripe]) {
			t.Errorf("R2: two Reads of %d share their bytes", stripe)
		}
		a.m.read(stripe)
		a.m.read(stripe)
		a.read(t, "R2", stripe)
		a.holds(t, "R2")
	}
	for _, list := range []func() []int{a.e.Pending, a.e.Doubt} {
		one := list()
		one = one[:cap(one)]
		for k := range one {
			one[k] = 77
		}
		a.holds(t, "R2")
	}
}

// TestSame: R4: two engines that are told the same tell the same.
func TestSame(t *testing.T) {
	a, b := fresh(t), fresh(t)
	for _, x := range []*pair{a, b} {
		d := &dice{4711}
		for k := range 300 {
			x.step(t, "R4: step "+strconv.Itoa(k), d)
		}
	}
	a.holds(t, "R4")
	b.holds(t, "R4")
	for n := range 8 {
		alike(t, "R4", n, a.w.Node(n), b.w.Node(n))
	}
}

// TestTwo: R7: two engines, by turns, know nothing of one another.
func TestTwo(t *testing.T) {
	a, b := fresh(t), fresh(t)
	d, g := &dice{17}, &dice{18}
	for k := range 150 {
		a.step(t, "R7: one, step "+strconv.Itoa(k), d)
		b.step(t, "R7: the other, step "+strconv.Itoa(k), g)
	}
	a.holds(t, "R7: one")
	b.holds(t, "R7: the other")
}

// TestBlankBehind: another blank engine over the same wire begins anew, whatever stands on its nodes.
func TestBlankBehind(t *testing.T) {
	a := fresh(t)
	a.fine(t, "14.1", 3, some(1))
	a.doubtful(t, "14.1", 4, some(2))
	sent := a.w.Sent()
	e, err := engine.Blank(a.w)
	if err != nil || e.Gen(3) != 0 || len(e.Doubt()) != 0 || e.Wire() != a.w || a.w.Sent() != sent {
		t.Errorf("14.1: Blank: %v, %d sent", err, a.w.Sent()-sent)
	}
	if b, err := e.Read(3); err != nil || !bytes.Equal(b, make([]byte, 128)) {
		t.Errorf("14.1: Read: %x, %v", b, err)
	}
	a.holds(t, "14.1")
	a.read(t, "14.1", 3)
}

// TestLastGen: what can't be laid as a request is refused by each node, and the stripe is in doubt.
func TestLastGen(t *testing.T) {
	a := fresh(t)
	a.e.Carrier.Stripes[3].Next = api.MaxGen
	a.m.next[3] = api.MaxGen
	a.fine(t, "R1", 3, some(1))
	a.is(t, "R1", 3, api.MaxGen, false, false)
	a.read(t, "R1", 3)
	a.holds(t, "R1")
	tells(t, "R1", a.e.Write(3, some(2)), "stripe 3: node 0: errno 1; node 1: errno 1; node 2: errno 1; node 3: errno 1; node 4: errno 1; node 5: errno 1; node 6: errno 1; node 7: errno 1")
	a.is(t, "R1", 3, api.MaxGen, false, true)
	_, err := a.e.Read(3)
	if cause.Code(err) != api.ErrArg {
		t.Errorf("R1: %v", err)
	}
}

// TestNone: R1: a nil engine, and one that Blank did not make, have nothing.
func TestNone(t *testing.T) {
	for _, e := range []*engine.Engine{nil, {}} {
		for _, stripe := range append(noStripes(), 0, 3, 39) {
			b, err := e.Read(stripe)
			if len(b) != 0 || cause.Code(err) != api.ErrArg {
				t.Errorf("R1: Read: %x, %v", b, err)
			}
			if err := e.Write(stripe, some(1)); cause.Code(err) != api.ErrArg {
				t.Errorf("R1: Write: %v", err)
			}
			if e.Gen(stripe) != 0 {
				t.Errorf("R1: Gen: %d", e.Gen(stripe))
			}
		}
		if len(e.Pending()) != 0 || len(e.Doubt()) != 0 || e.Wire() != nil {
			t.Errorf("R1: %v, %v, %v", e.Pending(), e.Doubt(), e.Wire())
		}
	}
	e, err := engine.Blank(new(wire.Wire))
	if err != nil {
		t.Fatalf("R1: Blank: %v", err)
	}
	if err := e.Write(3, some(1)); cause.Code(err) != api.ErrArg || len(cause.Nodes(err)) != 8 {
		t.Errorf("R1: Write over a wire without nodes: %v", err)
	}
}
