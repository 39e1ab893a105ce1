package node_test

import (
	"bytes"
	"math"
	"slices"
	"testing"

	"corbel/api"
	"corbel/mark"
	"corbel/node"
	"corbel/platter"
)

// maxGen is the greatest gen that there may be, maxNumber the greatest number of an intent.
const (
	maxGen    = 1 << 40
	maxNumber = 1<<48 - 1
)

// data is that many bytes in a disorder that is the same each time.
func data(size, seed int) []byte {
	b, x := make([]byte, size), uint32(seed)
	for k := range b {
		x = x*1664525 + 1013904223
		b[k] = byte(x >> 24)
	}
	if size > 1 {
		b[0], b[size-1] = byte(seed), byte(seed>>8)
	}
	return b
}

func get(stripe int) node.Req { return node.Req{Kind: node.Get, Stripe: stripe} }

// put is a Put that is right, if its numbers are; seed tells its bytes.
func put(stripe, gen, index, seed int) node.Req {
	return node.Req{Kind: node.Put, Stripe: stripe, Gen: gen, Index: index, Data: data(32, seed)}
}

// log is a Log that is right, if its numbers are; seed tells its bytes.
func log(stripe, gen, seed int) node.Req {
	return node.Req{Kind: node.Log, Stripe: stripe, Gen: gen, Data: data(128, seed)}
}

func flush() node.Req { return node.Req{Kind: node.Flush} }

func intents() node.Req { return node.Req{Kind: node.Intents} }

func release(stripe, gen int) node.Req {
	return node.Req{Kind: node.Release, Stripe: stripe, Gen: gen}
}

func samePiece(a, b api.Piece) bool {
	return a.Stripe == b.Stripe && a.Gen == b.Gen && a.Index == b.Index && string(a.Data) == string(b.Data)
}

func sameIntent(a, b api.Intent) bool {
	return a.Stripe == b.Stripe && a.Gen == b.Gen && string(a.Data) == string(b.Data)
}

func sameRep(a, b node.Rep) bool {
	return a.Code == b.Code && a.Boot == b.Boot && slices.EqualFunc(a.Pieces, b.Pieces, samePiece) && slices.EqualFunc(a.Intents, b.Intents, sameIntent)
}

// sealed is a body as a block of that kind.
func sealed(kind int, body []byte) []byte {
	b, e := mark.Seal(kind, body)
	if e != api.OK {
		panic(e)
	}
	return b
}

// high are the lowest size bytes of n, the highest first.
func high(n, size int) []byte {
	var b []byte
	for k := size - 1; k >= 0; k-- {
		b = append(b, byte(n>>(8*k)))
	}
	return b
}

// pieceBlock is the block of a piece, by 8.1's own words.
func pieceBlock(p api.Piece) []byte {
	return sealed(1, slices.Concat(high(p.Stripe, 1), high(p.Gen, 6), high(p.Index, 1), p.Data))
}

// intentBlock is the block of an intent, by 9.1's own words.
func intentBlock(number int, i api.Intent) []byte {
	return sealed(2, slices.Concat(high(number, 6), high(i.Stripe, 1), high(i.Gen, 6), i.Data))
}

// entry is what was written to a block: its bytes, and the piece in it, or the intent and its number, if there is one.
type entry struct {
	at     int
	bytes  []byte
	piece  *api.Piece
	number int
	intent api.Intent
}

// plain is a node by lists: what is done, what is pending, what is live, the last number; its boot, and how often it was written to.
type plain struct {
	done, pending, live []entry
	last, boot, writes  int
}

// stands is what was written to a block last.
func (m *plain) stands(at int) entry {
	for _, l := range [][]entry{m.pending, m.done} {
		for k := len(l) - 1; k >= 0; k-- {
			if l[k].at == at {
				return l[k]
			}
		}
	}
	return entry{at: at, bytes: make([]byte, 160)}
}

// start makes live what stands in the ring, and the boot one more.
func (m *plain) start() {
	m.live, m.last = nil, 0
	for at := 80; at < 96; at++ {
		if x := m.stands(at); x.number > 0 {
			m.live = append(m.live, x)
			m.last = max(m.last, x.number)
		}
	}
	m.boot++
}

func (m *plain) write(x entry) {
	x.bytes = bytes.Clone(x.bytes)
	m.pending = append(m.pending, x)
	m.writes++
}

func (m *plain) crash(keep []int) {
	for n, x := range m.pending {
		if slices.Contains(keep, n) {
			m.done = append(m.done, x)
		}
	}
	m.pending = nil
	m.start()
}

func (m *plain) lose() {
	m.done, m.pending = nil, nil
	m.start()
}

// get is what stands in a stripe's two blocks, the greater gen first.
func (m *plain) get(stripe int) []api.Piece {
	var l []api.Piece
	for at := stripe + stripe; at < stripe+stripe+2; at++ {
		if x := m.stands(at); x.piece != nil && x.piece.Stripe == stripe && x.piece.Gen%2 == at%2 {
			l = append(l, *x.piece)
		}
	}
	if len(l) == 2 && l[0].Gen < l[1].Gen {
		l[0], l[1] = l[1], l[0]
	}
	return l
}

// told is what is live: of what is left each time the one with the least number, of several the one in the first block.
func (m *plain) told() []api.Intent {
	var l []api.Intent
	left := slices.Clone(m.live)
	for len(left) > 0 {
		least := 0
		for k, x := range left {
			if x.number < left[least].number || x.number == left[least].number && x.at < left[least].at {
				least = k
			}
		}
		l = append(l, left[least].intent)
		left = slices.Delete(left, least, least+1)
	}
	return l
}

func (m *plain) put(q node.Req) api.Errno {
	if q.Stripe < 0 || q.Stripe > 39 || q.Gen < 1 || q.Gen > maxGen || q.Index < 0 || q.Index > 5 || len(q.Data) != 32 {
		return api.ErrArg
	}
	p := api.Piece{Stripe: q.Stripe, Gen: q.Gen, Index: q.Index, Data: bytes.Clone(q.Data)}
	m.write(entry{at: q.Stripe + q.Stripe + q.Gen%2, bytes: pieceBlock(p), piece: &p})
	return api.OK
}

func (m *plain) log(q node.Req) api.Errno {
	if q.Stripe < 0 || q.Stripe > 39 || q.Gen < 1 || q.Gen > maxGen || len(q.Data) != 128 {
		return api.ErrArg
	}
	i := api.Intent{Stripe: q.Stripe, Gen: q.Gen, Data: bytes.Clone(q.Data)}
	if slices.ContainsFunc(m.live, func(x entry) bool { return sameIntent(x.intent, i) }) {
		return api.OK
	}
	if m.last == maxNumber {
		return api.ErrFull
	}
	for at := 80; at < 96; at++ {
		if slices.ContainsFunc(m.live, func(x entry) bool { return x.at == at }) {
			continue
		}
		m.last++
		x := entry{at: at, bytes: intentBlock(m.last, i), number: m.last, intent: i}
		m.write(x)
		m.live = append(m.live, x)
		return api.OK
	}
	return api.ErrFull
}

// do is what a node must answer.
func (m *plain) do(q node.Req) node.Rep {
	p := node.Rep{Boot: m.boot}
	switch {
	case q.Kind == 1 && q.Stripe >= 0 && q.Stripe < 40:
		p.Pieces = m.get(q.Stripe)
	case q.Kind == 2:
		p.Code = m.put(q)
	case q.Kind == 3:
		p.Code = m.log(q)
	case q.Kind == 4:
		m.done, m.pending = append(m.done, m.pending...), nil
	case q.Kind == 5:
		p.Intents = m.told()
	case q.Kind == 6:
		m.live = slices.DeleteFunc(m.live, func(x entry) bool { return x.intent.Stripe == q.Stripe && x.intent.Gen == q.Gen })
	default:
		p.Code = api.ErrArg
	}
	return p
}

// pair is a node, and the plain one that it is held against.
type pair struct {
	n *node.Node
	m *plain
}

// fresh is a pair that is new.
func fresh() *pair {
	return &pair{node.New(), &plain{boot: 1}}
}

// does asks both, and checks that they answer the same.
func (a *pair) does(t *testing.T, q node.Req) node.Rep {
	t.Helper()
	want, got := a.m.do(q), a.n.Do(q)
	if !sameRep(got, want) {
		t.Fatalf("10.1: Do(%+v): %+v, not %+v", q, got, want)
	}
	return got
}

// told asks both, and checks the Code that is answered.
func (a *pair) told(t *testing.T, q node.Req, want api.Errno) {
	t.Helper()
	if got := a.does(t, q); got.Code != want {
		t.Errorf("10.1: Do(%+v): %d, not %d", q, got.Code, want)
	}
}

func (a *pair) crash(keep ...int) {
	a.n.Crash(keep)
	a.m.crash(keep)
}

func (a *pair) lose() {
	a.n.Lose()
	a.m.lose()
}

// stray writes to a block past the node.
func (a *pair) stray(t *testing.T, x entry) {
	t.Helper()
	if !a.n.Platter().Write(x.at, x.bytes) {
		t.Fatalf("Write of block %d: false", x.at)
	}
	a.m.write(x)
}

// strayIntent writes an intent past the node.
func (a *pair) strayIntent(t *testing.T, at, number int, i api.Intent) {
	t.Helper()
	a.stray(t, entry{at: at, bytes: intentBlock(number, i), number: number, intent: i})
}

// blocksOf is all that stands on a platter.
func blocksOf(d *platter.Platter) [][]byte {
	var l [][]byte
	for k := range d.Blocks() {
		b, _ := d.Read(k)
		l = append(l, b)
	}
	return l
}

// stands checks boot, platter and ring, block by block and intent by intent.
func (a *pair) stands(t *testing.T, what string) {
	t.Helper()
	d, r := a.n.Platter(), a.n.Ring()
	if a.n.Boot() != a.m.boot || d.Blocks() != 96 || d.Writes() != a.m.writes {
		t.Fatalf("10.1: %s: boot %d, not %d; %d blocks, %d Writes, not %d", what, a.n.Boot(), a.m.boot, d.Blocks(), d.Writes(), a.m.writes)
	}
	for at := range 96 {
		if b, ok := d.Read(at); !ok || !bytes.Equal(b, a.m.stands(at).bytes) {
			t.Fatalf("10.1: %s: block %d: %v, not %v", what, at, b, a.m.stands(at).bytes)
		}
	}
	var pending []int
	for _, x := range a.m.pending {
		pending = append(pending, x.at)
	}
	if got := d.Pending(); !slices.Equal(got, pending) {
		t.Fatalf("10.1: %s: pending %v, not %v", what, got, pending)
	}
	if l := r.Live(); !slices.EqualFunc(l, a.m.told(), sameIntent) || r.Free() != 16-len(a.m.live) {
		t.Fatalf("10.1: %s: live %v, not %v; %d free", what, l, a.m.told(), r.Free())
	}
}

// holds checks all that a pair tells, twice, as to tell turns nothing.
func (a *pair) holds(t *testing.T, what string) {
	t.Helper()
	for range 2 {
		a.stands(t, what)
		for stripe := range 40 {
			a.does(t, get(stripe))
		}
		a.does(t, intents())
	}
	a.stands(t, what+", and told")
}

// gens checks the gens of a stripe's pieces, in order.
func (a *pair) gens(t *testing.T, what string, stripe int, want ...int) {
	t.Helper()
	var got []int
	for _, p := range a.does(t, get(stripe)).Pieces {
		got = append(got, p.Gen)
	}
	if !slices.Equal(got, want) {
		t.Errorf("10.1: %s: stripe %d has gens %v, not %v", what, stripe, got, want)
	}
}

// live checks the gens of the intents, in order.
func (a *pair) live(t *testing.T, what string, want ...int) {
	t.Helper()
	var got []int
	for _, i := range a.does(t, intents()).Intents {
		got = append(got, i.Gen)
	}
	if !slices.Equal(got, want) {
		t.Errorf("10.1: %s: intents of gens %v, not %v", what, got, want)
	}
}

// outside are stripes of which there is none.
func outside() []int {
	return []int{-1, -2, -40, 40, 41, 47, 48, 80, 255, 256, 65536, 1 << 32, 1<<32 + 1, -1 << 32, 1 << 62, math.MaxInt, math.MinInt}
}

// noGens are gens of which there is none.
func noGens() []int {
	return []int{0, -1, -maxGen, maxGen + 1, maxGen + 2, 2 * maxGen, 1<<48 + 1, math.MaxInt, math.MinInt, math.MinInt + 1}
}

// noKinds are Kinds of which there is none.
func noKinds() []int {
	return []int{0, 7, 8, 9, 255, 256, 257, 258, 260, 1 << 32, 1<<32 + 1, 1<<32 + 2, -1, -2, -3, -4, -6, math.MaxInt, math.MinInt, math.MinInt + 1}
}

// wrongPuts are Puts of which one part may not be.
func wrongPuts() []node.Req {
	l := []node.Req{{Kind: node.Put}, {Kind: node.Put, Stripe: 40, Gen: maxGen + 1, Index: 6}}
	for _, n := range outside() {
		l = append(l, put(n, 1, 0, 1))
	}
	for _, n := range noGens() {
		l = append(l, put(0, n, 0, 1))
	}
	for _, n := range []int{-1, -6, 6, 7, 8, 255, 256, 1 << 32, math.MaxInt, math.MinInt} {
		l = append(l, put(0, 1, n, 1))
	}
	for _, n := range []int{0, 1, 31, 33, 64, 127, 128, 160, 300} {
		l = append(l, node.Req{Kind: node.Put, Stripe: 39, Gen: maxGen, Index: 5, Data: data(n, 7)})
	}
	spare := put(39, maxGen, 5, 1)
	spare.Data = spare.Data[:31]
	return append(l, spare)
}

// wrongLogs are Logs of which one part may not be.
func wrongLogs() []node.Req {
	l := []node.Req{{Kind: node.Log}, {Kind: node.Log, Stripe: 40, Gen: maxGen + 1, Index: 6}}
	for _, n := range outside() {
		l = append(l, log(n, 1, 1))
	}
	for _, n := range noGens() {
		l = append(l, log(0, n, 1))
	}
	for _, n := range []int{0, 1, 32, 127, 129, 141, 160, 300} {
		l = append(l, node.Req{Kind: node.Log, Stripe: 39, Gen: maxGen, Data: data(n, 7)})
	}
	spare := log(39, maxGen, 1)
	spare.Data = spare.Data[:127]
	return append(l, spare)
}

// wrongs are requests that are answered with ErrArg.
func wrongs() []node.Req {
	l := slices.Concat(wrongPuts(), wrongLogs())
	for _, n := range outside() {
		l = append(l, get(n))
	}
	for _, n := range noKinds() {
		l = append(l, node.Req{Kind: n}, node.Req{Kind: n, Stripe: 3, Gen: 1, Index: 2, Data: data(32, 1)}, node.Req{Kind: n, Stripe: 3, Gen: 1, Data: data(128, 1)})
	}
	return l
}

// TestKinds: they are numbered from 1 on.
func TestKinds(t *testing.T) {
	if got := []int{node.Get, node.Put, node.Log, node.Flush, node.Intents, node.Release}; !slices.Equal(got, []int{1, 2, 3, 4, 5, 6}) {
		t.Errorf("10: Kinds %v", got)
	}
}

func TestExample(t *testing.T) {
	n := node.New()
	if p := n.Do(put(3, 1, 2, 7)); !sameRep(p, node.Rep{Boot: 1}) {
		t.Errorf("10.1: Put: %+v", p)
	}
	n.Crash(nil)
	if p := n.Do(get(3)); !sameRep(p, node.Rep{Boot: 2}) {
		t.Errorf("10.2: Get behind a Crash of nothing: %+v", p)
	}
}

func TestNew(t *testing.T) {
	n := node.New()
	if n.Boot() != 1 || n.Platter().Blocks() != 96 || n.Platter().Writes() != 0 || n.Ring().Free() != 16 || len(n.Ring().Live()) != 0 {
		t.Errorf("10.1: a new one: boot %d", n.Boot())
	}
	for k, b := range blocksOf(n.Platter()) {
		if !bytes.Equal(b, make([]byte, 160)) {
			t.Errorf("10.1: a new one: block %d: %v", k, b)
		}
	}
	fresh().holds(t, "a new one")
}

// TestPut: pieces of several stripes and gens, the greater gen first, each in its block.
func TestPut(t *testing.T) {
	a := fresh()
	for n, c := range [][3]int{{3, 1, 2}, {4, 2, 0}, {3, 2, 2}, {0, 1, 5}, {39, maxGen, 1}, {3, 3, 4}, {39, maxGen - 1, 0}, {0, 7, 3}, {4, 2, 1}} {
		a.told(t, put(c[0], c[1], c[2], n+1), api.OK)
		a.holds(t, "Puts")
	}
	a.gens(t, "Puts", 3, 3, 2)
	a.gens(t, "Puts", 4, 2)
	a.gens(t, "Puts", 0, 7)
	a.gens(t, "Puts", 39, maxGen, maxGen-1)
	a.gens(t, "Puts", 1)
	want := []api.Piece{{Stripe: 3, Gen: 3, Index: 4, Data: data(32, 6)}, {Stripe: 3, Gen: 2, Index: 2, Data: data(32, 3)}}
	if p := a.n.Do(get(3)); !sameRep(p, node.Rep{Boot: 1, Pieces: want}) {
		t.Errorf("10.1: Get: %+v, not %v", p, want)
	}
	if b, _ := a.n.Platter().Read(7); !bytes.Equal(b, pieceBlock(want[0])) {
		t.Errorf("10.1: block 7: %v", b)
	}
	if got := a.n.Platter().Pending(); !slices.Equal(got, []int{7, 8, 6, 1, 78, 7, 79, 1, 8}) {
		t.Errorf("10.1: pending %v", got)
	}
}

// TestPutEdges: each of the least and greatest stripes, gens and indices, with each other.
func TestPutEdges(t *testing.T) {
	for _, stripe := range []int{0, 1, 38, 39} {
		for _, gen := range []int{1, 2, 255, 256, 1<<32 - 1, 1 << 32, maxGen - 1, maxGen} {
			for index := range 6 {
				a := fresh()
				a.told(t, put(stripe, gen, index, gen+index), api.OK)
				want := node.Rep{Boot: 1, Pieces: []api.Piece{{Stripe: stripe, Gen: gen, Index: index, Data: data(32, gen+index)}}}
				if p := a.n.Do(get(stripe)); !sameRep(p, want) {
					t.Errorf("10.1: %+v, not %+v", p, want)
				}
				a.stands(t, "one Put")
			}
		}
	}
	a := fresh()
	for stripe := range 40 {
		a.told(t, put(stripe, 2, stripe%6, stripe), api.OK)
		a.told(t, put(stripe, 1, stripe%6, stripe+1), api.OK)
	}
	a.holds(t, "all of them")
	for stripe := range 40 {
		a.gens(t, "all of them", stripe, 2, 1)
	}
}

// TestWrong: what may not be is ErrArg with the boot, and turns nothing, whatever stands there.
func TestWrong(t *testing.T) {
	a := fresh()
	for n := range 4 {
		for _, q := range wrongs() {
			if p := a.n.Do(q); !sameRep(p, node.Rep{Code: api.ErrArg, Boot: a.m.boot}) {
				t.Errorf("10.1, R3: Do(%+v): %+v", q, p)
			}
			a.stands(t, "a wrong one, R3")
		}
		a.holds(t, "wrong ones")
		a.told(t, put(0, 1+n, 0, n), api.OK)
		a.told(t, put(39, maxGen-n, 5, n), api.OK)
		switch n {
		case 0:
			a.told(t, log(0, 1, 0), api.OK)
			a.does(t, flush())
		case 1:
			a.told(t, log(1, 1, 1), api.OK)
			a.crash(0, 2)
		case 2:
			for k := range 20 {
				a.does(t, log(20+k, 1, 1))
			}
		}
	}
}

// TestNoKind: nothing else is done.
func TestNoKind(t *testing.T) {
	a := fresh()
	a.does(t, put(3, 1, 2, 1))
	a.does(t, log(3, 1, 1))
	for kind := -300; kind < 600; kind++ {
		if kind >= 1 && kind <= 6 {
			continue
		}
		a.told(t, node.Req{Kind: kind, Stripe: 3, Gen: 1, Index: 2, Data: data(32, 2)}, api.ErrArg)
		a.stands(t, "no Kind")
	}
	a.holds(t, "no Kind")
}

// TestUnread: of a request each Kind reads what it is of, and nothing else.
func TestUnread(t *testing.T) {
	a := fresh()
	a.does(t, put(3, 1, 2, 1))
	a.does(t, log(3, 1, 1))
	wild := []int{-1, 0, 3, 6, 40, 255, maxGen + 1, math.MaxInt, math.MinInt}
	for _, n := range wild {
		for _, b := range [][]byte{nil, {}, {1}, data(32, 2), data(128, 2), data(300, 2)} {
			a.told(t, node.Req{Kind: node.Get, Stripe: 3, Gen: n, Index: n, Data: b}, api.OK)
			a.told(t, node.Req{Kind: node.Intents, Stripe: n, Gen: n, Index: n, Data: b}, api.OK)
			a.told(t, node.Req{Kind: node.Release, Stripe: 3, Gen: 2, Index: n, Data: b}, api.OK)
			a.told(t, node.Req{Kind: node.Log, Stripe: 3, Gen: 1, Index: n, Data: data(128, 1)}, api.OK)
			a.stands(t, "what is not read")
			a.told(t, node.Req{Kind: node.Flush, Stripe: n, Gen: n, Index: n, Data: b}, api.OK)
			a.stands(t, "Flush, and what is not read")
		}
		a.told(t, node.Req{Kind: node.Release, Stripe: 3, Gen: 1, Index: n, Data: data(128, 9)}, api.OK)
		a.live(t, "one released")
		a.told(t, node.Req{Kind: node.Log, Stripe: 3, Gen: 1, Index: n, Data: data(128, 1)}, api.OK)
		a.live(t, "one logged", 1)
	}
}

// TestLog: several, in the order of their numbers; some released, and logged again.
func TestLog(t *testing.T) {
	a := fresh()
	for n, gen := range []int{9, 3, 7, 5} {
		a.told(t, log(gen, gen, n), api.OK)
		a.holds(t, "Logs")
	}
	a.live(t, "Logs", 9, 3, 7, 5)
	a.told(t, release(9, 9), api.OK)
	a.told(t, release(7, 7), api.OK)
	a.holds(t, "two released")
	a.live(t, "two released", 3, 5)
	a.told(t, log(1, 8, 1), api.OK)
	a.told(t, log(39, maxGen, 1), api.OK)
	a.told(t, log(0, 1, 1), api.OK)
	a.holds(t, "into the free ones")
	a.live(t, "into the free ones", 3, 5, 8, maxGen, 1)
	want := []api.Intent{{Stripe: 3, Gen: 3, Data: data(128, 1)}, {Stripe: 5, Gen: 5, Data: data(128, 3)}, {Stripe: 1, Gen: 8, Data: data(128, 1)}, {Stripe: 39, Gen: maxGen, Data: data(128, 1)}, {Gen: 1, Data: data(128, 1)}}
	if p := a.n.Do(intents()); !sameRep(p, node.Rep{Boot: 1, Intents: want}) {
		t.Errorf("10.1: Intents: %+v, not %v", p, want)
	}
	if b, _ := a.n.Platter().Read(82); !bytes.Equal(b, intentBlock(6, want[3])) {
		t.Errorf("10.1: block 82: %v", b)
	}
	if got := a.n.Platter().Pending(); !slices.Equal(got, []int{80, 81, 82, 83, 80, 82, 84}) {
		t.Errorf("10.1: pending %v", got)
	}
}

// TestLogLive: one that is live already is not logged again; what differs in one thing is.
func TestLogLive(t *testing.T) {
	a := fresh()
	turned := log(3, 1, 7)
	turned.Data[127] ^= 1
	for _, q := range []node.Req{log(3, 1, 7), log(3, 2, 7), log(4, 1, 7), turned} {
		for range 3 {
			a.told(t, q, api.OK)
			a.told(t, log(3, 1, 7), api.OK)
			a.holds(t, "live already")
		}
	}
	if a.n.Platter().Writes() != 4 || a.n.Ring().Free() != 12 {
		t.Errorf("10.1: live already: %d Writes", a.n.Platter().Writes())
	}
	a.told(t, release(3, 1), api.OK)
	a.live(t, "two of one stripe and gen released", 2, 1)
	a.told(t, log(3, 1, 7), api.OK)
	a.live(t, "logged again", 2, 1, 1)
	a.holds(t, "logged again")
}

// TestLogEdges: each of the least and greatest stripes and gens.
func TestLogEdges(t *testing.T) {
	a := fresh()
	for _, stripe := range []int{0, 1, 38, 39} {
		for _, gen := range []int{1, 2, maxGen - 1, maxGen} {
			a.told(t, log(stripe, gen, stripe+gen), api.OK)
		}
	}
	a.holds(t, "at the edges")
	for _, c := range [][2]int{{39, maxGen}, {0, 1}, {0, maxGen}, {39, 1}} {
		a.told(t, release(c[0], c[1]), api.OK)
		a.holds(t, "released at the edges")
	}
	if a.n.Ring().Free() != 4 {
		t.Errorf("10.1: released at the edges: %d free", a.n.Ring().Free())
	}
}

// TestFull: one short of full, full, and Release and Log again; what fails turns nothing.
func TestFull(t *testing.T) {
	for free := range 16 {
		a := fresh()
		for n := range 16 {
			a.told(t, log(n, 1, n), api.OK)
			if a.n.Ring().Free() != 15-n {
				t.Errorf("10.1: %d Logs: %d free", n+1, a.n.Ring().Free())
			}
		}
		a.does(t, put(5, 1, 0, 1))
		for n := range 16 {
			if p := a.n.Do(log(n, 2, n)); !sameRep(p, node.Rep{Code: api.ErrFull, Boot: 1}) {
				t.Errorf("10.1: Log in a full ring: %+v", p)
			}
			a.told(t, log(n, 1, n), api.OK)
			a.told(t, log(n-40, 1, n), api.ErrArg)
			a.stands(t, "full, R3")
		}
		a.told(t, put(5, 2, 0, 1), api.OK)
		a.holds(t, "full")
		a.told(t, release(free, 1), api.OK)
		a.told(t, log(20, 1, 1), api.OK)
		a.told(t, log(21, 1, 1), api.ErrFull)
		a.holds(t, "full again")
		if b, _ := a.n.Platter().Read(80 + free); !bytes.Equal(b, intentBlock(17, api.Intent{Stripe: 20, Gen: 1, Data: data(128, 1)})) {
			t.Errorf("10.1: block %d of a ring that is full again: %v", 80+free, b)
		}
	}
}

// TestFullCrashed: full again behind a Crash, as Release turns no block.
func TestFullCrashed(t *testing.T) {
	a := fresh()
	for n := range 16 {
		a.told(t, log(n, 1, n), api.OK)
	}
	a.does(t, flush())
	for n := range 16 {
		a.told(t, release(n, 1), api.OK)
	}
	a.live(t, "all released")
	a.crash()
	a.holds(t, "full, all released, and a Crash")
	a.told(t, log(20, 1, 1), api.ErrFull)
	a.told(t, release(7, 1), api.OK)
	a.told(t, log(20, 1, 1), api.OK)
	a.holds(t, "one logged behind the Crash")
	a.crash(0)
	a.holds(t, "that one kept")
	a.told(t, log(21, 1, 1), api.ErrFull)
}

// TestNoNumber: a ring with no number left is full, be there free blocks or not.
func TestNoNumber(t *testing.T) {
	a := fresh()
	a.strayIntent(t, 90, maxNumber-1, api.Intent{Stripe: 3, Gen: 3, Data: data(128, 3)})
	a.crash(0)
	a.told(t, log(4, 4, 4), api.OK)
	for range 2 {
		a.told(t, log(5, 5, 5), api.ErrFull)
		a.told(t, log(3, 3, 3), api.OK)
		a.told(t, log(4, 4, 4), api.OK)
		a.holds(t, "no number left")
		a.does(t, flush())
		a.crash()
	}
	a.lose()
	a.told(t, log(5, 5, 5), api.OK)
	a.holds(t, "lost, and logged")
}

// TestRelease: of what is not live it is OK, and turns nothing; of what is, no block is turned.
func TestRelease(t *testing.T) {
	a := fresh()
	a.told(t, release(0, 0), api.OK)
	a.told(t, release(0, 1), api.OK)
	a.holds(t, "Release in a new one")
	for n := range 16 {
		a.does(t, log(n%4, 1+n/4%2, n))
	}
	a.does(t, put(1, 1, 1, 1))
	for _, c := range [][2]int{{4, 1}, {0, 3}, {0, 0}, {-1, 1}, {0, -1}, {40, 1}, {1 << 32, 1}, {0, 1<<48 + 1}, {256, 1}, {math.MinInt, math.MinInt}, {math.MaxInt, math.MaxInt}, {2, 4}} {
		if p := a.n.Do(release(c[0], c[1])); !sameRep(p, node.Rep{Boot: 1}) {
			t.Errorf("10.1: Release of none: %+v", p)
		}
		a.stands(t, "Release of none")
	}
	for k, c := range [][2]int{{2, 1}, {0, 2}, {3, 2}, {1, 1}, {0, 1}, {1, 2}, {2, 2}, {3, 1}} {
		for range 2 {
			if p := a.n.Do(release(c[0], c[1])); !sameRep(p, node.Rep{Boot: 1}) {
				t.Errorf("10.1: Release: %+v", p)
			}
			a.m.do(release(c[0], c[1]))
			a.holds(t, "Release of two")
		}
		if a.n.Ring().Free() != 2*k+2 {
			t.Errorf("10.1: %d free", a.n.Ring().Free())
		}
	}
	a.gens(t, "all released", 1, 1)
	a.crash(0, 7, 16)
	a.live(t, "released, and two kept by a Crash", 1, 2)
	a.gens(t, "released, and one kept by a Crash", 1, 1)
	a.holds(t, "released, and some kept by a Crash")
}

// TestFlush: what it found stays whatever the Crash keeps, what came behind it does not; it starts nothing anew.
func TestFlush(t *testing.T) {
	for _, keep := range [][]int{nil, {}, {0}, {1}, {1, 0}, {-1}, {2}, {math.MaxInt}} {
		a := fresh()
		a.told(t, flush(), api.OK)
		a.does(t, put(3, 1, 2, 1))
		a.does(t, log(3, 1, 1))
		a.does(t, log(4, 1, 2))
		a.told(t, release(4, 1), api.OK)
		a.told(t, flush(), api.OK)
		if len(a.n.Platter().Pending()) != 0 || a.n.Boot() != 1 {
			t.Errorf("10.1: flushed: pending %v, boot %d", a.n.Platter().Pending(), a.n.Boot())
		}
		a.live(t, "flushed, the released one stays so", 1)
		a.told(t, flush(), api.OK)
		a.holds(t, "flushed twice")
		a.does(t, put(3, 3, 2, 3))
		a.does(t, log(5, 2, 3))
		a.holds(t, "behind a Flush")
		a.crash(keep...)
		a.holds(t, "flushed, and a Crash")
		gen, live := 1, []int{1, 1}
		if slices.Contains(keep, 0) {
			gen = 3
		}
		if slices.Contains(keep, 1) {
			live = []int{1, 2}
		}
		a.gens(t, "flushed, and a Crash", 3, gen)
		a.live(t, "flushed, and a Crash", live...)
	}
}

// TestBoots: each Kind tells the boot of the time, and a Crash and a Lose make it one more, nothing else does.
func TestBoots(t *testing.T) {
	a, boot := fresh(), 1
	each := append(wrongs(), get(3), put(3, 1, 2, 1), log(3, 1, 1), intents(), flush(), release(3, 1), get(0), log(39, maxGen, 1))
	for n := range 12 {
		if a.n.Boot() != boot {
			t.Errorf("10.2: boot %d, not %d", a.n.Boot(), boot)
		}
		for _, q := range each {
			if p := a.does(t, q); p.Boot != boot || a.n.Boot() != boot {
				t.Errorf("10.1: Do(%+v): boot %d, not %d", q, p.Boot, boot)
			}
		}
		if n%3 == 1 {
			a.lose()
		} else {
			a.crash(n, 0)
		}
		boot++
		a.holds(t, "one boot more")
	}
	for range 1000 {
		a.n.Crash(nil)
		a.n.Lose()
	}
	if a.n.Boot() != boot+2000 || a.n.Do(get(0)).Boot != boot+2000 {
		t.Errorf("10.2: boot %d, not %d", a.n.Boot(), boot+2000)
	}
}

// TestCrash: of two Puts and two Logs that are pending all, some, none are kept.
func TestCrash(t *testing.T) {
	for keep := range 16 {
		a := fresh()
		a.does(t, put(5, 1, 2, 1))
		a.does(t, put(5, 2, 2, 2))
		a.does(t, log(5, 1, 1))
		a.does(t, log(5, 2, 2))
		a.does(t, flush())
		a.does(t, release(5, 1))
		a.does(t, put(5, 3, 2, 3))
		a.does(t, log(5, 3, 3))
		a.does(t, put(5, 4, 2, 4))
		a.does(t, log(5, 4, 4))
		a.holds(t, "pending")
		a.gens(t, "pending", 5, 4, 3)
		a.live(t, "pending", 2, 3, 4)
		var numbers []int
		odd, even, live := 1, 2, []int{1, 2}
		for n := range 4 {
			if keep>>n&1 == 1 {
				numbers = append(numbers, n)
			}
		}
		if keep&1 != 0 {
			odd = 3
		}
		if keep&2 != 0 {
			live = []int{2, 3}
		}
		if keep&4 != 0 {
			even = 4
		}
		if keep&8 != 0 {
			live = append(live, 4)
		}
		a.crash(numbers...)
		a.holds(t, "behind a Crash")
		a.gens(t, "behind a Crash", 5, max(odd, even), min(odd, even))
		a.live(t, "behind a Crash", live...)
		a.does(t, put(6, 1, 0, 1))
		a.does(t, log(6, 9, 1))
		a.live(t, "logged behind a Crash", append(slices.Clone(live), 9)...)
		a.holds(t, "behind a Crash, and more")
		a.crash()
		a.live(t, "a Crash of nothing", live...)
		a.gens(t, "a Crash of nothing", 6)
		a.holds(t, "a Crash of nothing")
	}
}

// TestCrashNumbers: numbers out of order, twice, and such that stand for nothing.
func TestCrashNumbers(t *testing.T) {
	for _, keep := range [][]int{
		nil, {}, {0}, {2}, {2, 0}, {2, 1, 0}, {0, 0, 2, 2}, {3}, {-1}, {-2, 1, 99}, {1 << 32, 1<<32 + 1, -1 << 32}, {math.MaxInt, math.MinInt}, {1, math.MinInt, 1},
	} {
		a := fresh()
		a.does(t, put(7, 2, 0, 1))
		a.does(t, log(7, 2, 1))
		a.does(t, put(7, 2, 1, 2))
		a.crash(keep...)
		a.holds(t, "numbers")
		var index []int
		for _, p := range a.n.Do(get(7)).Pieces {
			index = append(index, p.Index)
		}
		want := []int{}
		if slices.Contains(keep, 0) {
			want = []int{0}
		}
		if slices.Contains(keep, 2) {
			want = []int{1}
		}
		if !slices.Equal(index, want) || a.n.Ring().Free() == 16 == slices.Contains(keep, 1) {
			t.Errorf("10.2: Crash(%v): indices %v, %d free", keep, index, a.n.Ring().Free())
		}
		// The numbers begin at 0 anew.
		a.does(t, put(8, 1, 0, 1))
		a.does(t, put(9, 1, 0, 1))
		a.crash(1)
		a.gens(t, "numbers anew", 8)
		a.gens(t, "numbers anew", 9, 1)
		a.holds(t, "numbers anew")
	}
}

// TestNothingPending: a Crash and a Lose of a node at which nothing is.
func TestNothingPending(t *testing.T) {
	for _, keep := range [][]int{nil, {}, {0}, {0, 1, 2}, {-1, math.MaxInt}} {
		a := fresh()
		a.crash(keep...)
		a.holds(t, "a new one, and a Crash")
		a.lose()
		a.holds(t, "a new one, and a Lose")
		a.does(t, put(3, 1, 2, 1))
		a.does(t, log(3, 1, 1))
		a.does(t, flush())
		for range 3 {
			a.crash(keep...)
			a.holds(t, "flushed, and a Crash")
			a.gens(t, "flushed, and a Crash", 3, 1)
			a.live(t, "flushed, and a Crash", 1)
		}
		a.lose()
		a.holds(t, "flushed, and a Lose")
		a.gens(t, "flushed, and a Lose", 3)
		a.live(t, "flushed, and a Lose")
		a.lose()
		a.crash(keep...)
		a.holds(t, "lost twice, and a Crash")
		if a.n.Boot() != 9 {
			t.Errorf("10.2: boot %d, not 9", a.n.Boot())
		}
	}
}

// TestAnew: behind a Crash the ring is what stands in its blocks: the released live again, and numbers go on behind the greatest that is there.
func TestAnew(t *testing.T) {
	a := fresh()
	for gen := 1; gen <= 5; gen++ {
		a.does(t, log(5, gen, gen))
	}
	a.does(t, flush())
	a.does(t, release(5, 2))
	a.does(t, release(5, 5))
	a.live(t, "two released", 1, 3, 4)
	a.crash()
	a.live(t, "a Crash", 1, 2, 3, 4, 5)
	a.does(t, log(5, 6, 6))
	if b, _ := a.n.Platter().Read(85); !bytes.Equal(b, intentBlock(6, api.Intent{Stripe: 5, Gen: 6, Data: data(128, 6)})) {
		t.Errorf("10.2: the next number behind a Crash: %v", b)
	}
	a.crash()
	a.live(t, "one taken back", 1, 2, 3, 4, 5)
	// Its number is free again, as no block tells it.
	a.does(t, log(5, 7, 7))
	if b, _ := a.n.Platter().Read(85); !bytes.Equal(b, intentBlock(6, api.Intent{Stripe: 5, Gen: 7, Data: data(128, 7)})) {
		t.Errorf("10.2: the next number behind another Crash: %v", b)
	}
	a.does(t, release(5, 1))
	a.does(t, log(5, 8, 8))
	a.live(t, "in the first one's block", 2, 3, 4, 5, 7, 8)
	a.crash(1)
	a.live(t, "in the first one's block, kept", 2, 3, 4, 5, 8)
	a.holds(t, "kept")
	a.lose()
	a.live(t, "lost")
	a.does(t, log(5, 9, 9))
	if b, _ := a.n.Platter().Read(80); !bytes.Equal(b, intentBlock(1, api.Intent{Stripe: 5, Gen: 9, Data: data(128, 9)})) {
		t.Errorf("10.2: the first number behind a Lose: %v", b)
	}
}

// TestLose: nothing stays, be it flushed or pending, and Put, Log and Flush go on behind it.
func TestLose(t *testing.T) {
	a := fresh()
	for round := range 3 {
		for stripe := range 40 {
			a.told(t, put(stripe, 1+round, stripe%6, stripe), api.OK)
		}
		for n := range 16 {
			a.told(t, log(n, 1+round, n), api.OK)
		}
		a.told(t, log(20, 1, 1), api.ErrFull)
		if round > 0 {
			a.told(t, flush(), api.OK)
		}
		a.told(t, release(3, 1+round), api.OK)
		a.told(t, put(7, 2+round, 0, 1), api.OK)
		a.told(t, log(21, 1, 1), api.OK)
		a.holds(t, "before a Lose")
		a.lose()
		a.holds(t, "behind a Lose")
		for k, b := range blocksOf(a.n.Platter()) {
			if !bytes.Equal(b, make([]byte, 160)) {
				t.Errorf("10.2: block %d behind a Lose: %v", k, b)
			}
		}
		for stripe := range 40 {
			a.gens(t, "behind a Lose", stripe)
		}
		a.live(t, "behind a Lose")
		if a.n.Ring().Free() != 16 || len(a.n.Platter().Pending()) != 0 {
			t.Errorf("10.2: behind a Lose: %d free, pending %v", a.n.Ring().Free(), a.n.Platter().Pending())
		}
		a.crash(0, 1, 2)
		a.holds(t, "a Crash behind a Lose")
		a.told(t, put(7, 9, 5, 1), api.OK)
		a.told(t, log(7, 9, 1), api.OK)
		a.told(t, flush(), api.OK)
		a.crash()
		a.gens(t, "put and flushed behind a Lose", 7, 9)
		a.live(t, "logged and flushed behind a Lose", 9)
		a.holds(t, "flushed behind a Lose")
		a.lose()
	}
}

// TestOwn: Platter and Ring are those that the node keeps with, before and behind a Crash and a Lose.
func TestOwn(t *testing.T) {
	a := fresh()
	for _, starts := range []func(){func() {}, func() { a.crash(0, 1, 2) }, func() { a.crash() }, func() { a.lose() }} {
		starts()
		p := api.Piece{Stripe: 3, Gen: 6, Index: 1, Data: data(32, 1)}
		a.stray(t, entry{at: 6, bytes: pieceBlock(p), piece: &p})
		a.holds(t, "a piece past the node")
		a.gens(t, "a piece past the node", 3, 6)
		a.strayIntent(t, 95, 50, api.Intent{Stripe: 1, Gen: 1, Data: data(128, 1)})
		a.holds(t, "an intent past the ring is not live till it is opened anew")
		i := api.Intent{Stripe: 2, Gen: 2, Data: data(128, 2)}
		if e := a.n.Ring().Log(i); e != api.OK {
			t.Errorf("10.1: Log past the node: %d", e)
		}
		a.m.log(log(2, 2, 2))
		a.holds(t, "an intent past the node")
		a.told(t, log(2, 2, 2), api.OK)
		a.told(t, release(2, 2), api.OK)
		a.holds(t, "released")
		a.told(t, log(4, 4, 4), api.OK)
		if a.n.Ring().Release(4, 4) != 1 {
			t.Error("10.1: Release past the node")
		}
		a.m.do(release(4, 4))
		a.holds(t, "released past the node")
	}
}

// TestBroken: a block that is turned past the node is no piece, and behind a Crash no intent.
func TestBroken(t *testing.T) {
	a := fresh()
	a.does(t, put(3, 1, 2, 1))
	a.does(t, put(3, 2, 2, 2))
	a.does(t, log(3, 1, 1))
	a.does(t, log(3, 2, 2))
	a.does(t, flush())
	for _, at := range []int{7, 80} {
		turned := bytes.Clone(a.m.stands(at).bytes)
		turned[40] ^= 1
		a.stray(t, entry{at: at, bytes: turned})
	}
	a.gens(t, "one block turned", 3, 2)
	a.live(t, "one block turned, and not yet opened anew", 1, 2)
	a.crash(0, 1)
	a.holds(t, "two blocks turned")
	a.gens(t, "one block turned", 3, 2)
	a.live(t, "one block turned", 2)
	a.does(t, put(3, 3, 2, 3))
	a.does(t, log(3, 3, 3))
	a.gens(t, "written over", 3, 3, 2)
	a.live(t, "written over", 2, 3)
	a.holds(t, "written over")
}

// dice are numbers in a disorder that is the same each time.
type dice uint32

// roll is one of 0 to n - 1.
func (d *dice) roll(n int) int {
	*d = *d*1664525 + 1013904223
	return int(*d>>8) % n
}

// keep is a list of numbers, of what is pending and of nothing.
func (a *pair) keep(d *dice) []int {
	var l []int
	for range d.roll(8) {
		l = append(l, d.roll(len(a.m.pending)+2)-1)
	}
	return l
}

// step does one of all things that may be done to a node; stripes, gens and bytes are few, so that they meet.
func (a *pair) step(t *testing.T, d *dice) {
	t.Helper()
	stripe, gen, index, seed := d.roll(4)*13, 1+d.roll(6), d.roll(6), d.roll(3)
	switch d.roll(28) {
	case 0, 1:
		a.does(t, flush())
	case 2:
		a.crash(a.keep(d)...)
	case 3:
		if d.roll(6) == 0 {
			a.lose()
		}
	case 4:
		a.does(t, wrongs()[d.roll(len(wrongs()))])
	case 5:
		a.stray(t, entry{at: d.roll(96), bytes: make([]byte, 160)})
	case 6, 7, 8, 9:
		a.does(t, release(stripe, gen))
	case 10, 11:
		a.does(t, get(stripe-40*d.roll(2)))
	case 12:
		a.does(t, intents())
	case 13, 14, 15, 16, 17, 18:
		a.does(t, put(stripe, gen, index, seed))
	default:
		a.does(t, log(stripe, gen, seed))
	}
}

// TestRuns: runs of many requests, falls and losses, each against plain lists, and each done twice (R4), on nodes that know nothing of one another (R7).
func TestRuns(t *testing.T) {
	full := 0
	for run := range 40 {
		d, again := dice(run), dice(run)
		a, b := fresh(), fresh()
		for range 250 {
			a.step(t, &d)
			a.stands(t, "a run")
			if a.n.Ring().Free() == 0 {
				full++
			}
		}
		a.holds(t, "a run")
		for range 250 {
			b.step(t, &again)
		}
		b.holds(t, "the same run again")
		a.holds(t, "the run, behind the same one at another node")
		if !slices.EqualFunc(blocksOf(a.n.Platter()), blocksOf(b.n.Platter()), bytes.Equal) || a.n.Boot() != b.n.Boot() {
			t.Error("R4: the same run again led to another node")
		}
	}
	if full == 0 {
		t.Error("no run led to a full ring: the runs do not ask enough")
	}
}

// TestApart: one node knows nothing of another one.
func TestApart(t *testing.T) {
	a, b, c := fresh(), fresh(), fresh()
	each := func(what string) {
		t.Helper()
		for _, x := range []*pair{a, b, c} {
			x.holds(t, "R7: "+what)
		}
	}
	a.does(t, put(3, 1, 2, 1))
	a.does(t, log(3, 1, 1))
	each("one is asked")
	b.does(t, put(3, 1, 4, 2))
	b.does(t, log(3, 1, 2))
	b.does(t, log(4, 1, 2))
	each("two are asked")
	b.does(t, flush())
	each("the second is flushed")
	a.crash(1)
	each("the first fell")
	b.does(t, release(3, 1))
	each("the second is released")
	c.lose()
	each("the third is lost")
	q := a.n.Do(intents()).Intents[0]
	c.does(t, node.Req{Kind: node.Log, Stripe: q.Stripe, Gen: q.Gen, Data: q.Data})
	scribble(q.Data)
	each("the third has the first one's intent")
	a.lose()
	b.crash()
	each("all of them")
}

// guarded is a list with three places of spare room, whose bytes are 0xa5.
func guarded(b []byte) []byte { return append(bytes.Clone(b), 0xa5, 0xa5, 0xa5)[:len(b)] }

// scribble writes over a list, and over its spare room.
func scribble(b []byte) {
	b = b[:cap(b)]
	for k := range b {
		b[k] ^= 0x5a
	}
}

// TestGivenKept: what is given is as it was, its spare room too, and what is written to it afterwards is not told.
func TestGivenKept(t *testing.T) {
	a := fresh()
	all := append(wrongs(), get(3), flush(), intents(), release(3, 1))
	for gen := 1; gen < 5; gen++ {
		all = append(all, put(3, gen, 2, gen), log(3, gen, gen), log(3, gen, gen))
	}
	for n := range 20 {
		all = append(all, log(n, 9, n))
	}
	for _, q := range all {
		was := q.Data
		q.Data = guarded(was)
		a.does(t, q)
		if !bytes.Equal(q.Data, was) || string(q.Data[:len(was)+3][len(was):]) != "\xa5\xa5\xa5" {
			t.Errorf("R2: Do of Kind %d turned what was given: %v", q.Kind, q.Data[:len(was)+3])
		}
		scribble(q.Data)
		a.stands(t, "what was given is written to, R2")
	}
	a.holds(t, "what was given is written to, R2")
	var each []int
	for n := range a.m.pending {
		each = append(each, n)
	}
	a.crash(each...)
	a.holds(t, "what was given is written to, and a Crash that keeps all, R2")
}

// TestKeepKept: the numbers of a Crash are as they were, and are not kept.
func TestKeepKept(t *testing.T) {
	for _, was := range [][]int{nil, {}, {0}, {2, 0, 2, -1, 9}, {3, 2, 1, 0}} {
		a := fresh()
		for n := range 4 {
			a.does(t, put(n, 1, 0, n))
		}
		keep := append(slices.Clone(was), -77, 1)[:len(was)]
		a.n.Crash(keep)
		a.m.crash(was)
		if spare := keep[:len(was)+2][len(was):]; !slices.Equal(keep, was) || !slices.Equal(spare, []int{-77, 1}) {
			t.Errorf("R2: Crash(%v) turned what was given: %v %v", was, keep, spare)
		}
		for k := range keep {
			keep[k] = 1
		}
		a.holds(t, "the numbers written to, R2")
		a.does(t, put(5, 1, 0, 1))
		a.does(t, put(6, 1, 0, 1))
		a.crash()
		a.holds(t, "a Crash behind it")
	}
}

// TestAnswersKept: what is answered is not shared, neither with the node nor within the answer, nor with another one.
func TestAnswersKept(t *testing.T) {
	a := fresh()
	for gen := 1; gen <= 2; gen++ {
		a.does(t, put(3, gen, 2, gen))
		a.does(t, log(3, gen, gen))
	}
	for _, behind := range []func(){func() {}, func() { a.does(t, flush()) }, func() { a.crash() }} {
		behind()
		one, other := a.n.Do(get(3)), a.n.Do(get(3))
		scribble(one.Pieces[0].Data)
		if !samePiece(one.Pieces[1], api.Piece{Stripe: 3, Gen: 1, Index: 2, Data: data(32, 1)}) {
			t.Errorf("R2: two pieces of one answer share memory: %v", one.Pieces[1])
		}
		scribble(one.Pieces[1].Data)
		clear(one.Pieces[:cap(one.Pieces)])
		if !sameRep(other, a.m.do(get(3))) {
			t.Errorf("R2: two answers share memory: %+v", other)
		}
		one, other = a.n.Do(intents()), a.n.Do(intents())
		scribble(one.Intents[0].Data)
		if !sameIntent(one.Intents[1], api.Intent{Stripe: 3, Gen: 2, Data: data(128, 2)}) {
			t.Errorf("R2: two intents of one answer share memory: %v", one.Intents[1])
		}
		scribble(one.Intents[1].Data)
		clear(one.Intents[:cap(one.Intents)])
		if !sameRep(other, a.m.do(intents())) {
			t.Errorf("R2: two answers share memory: %+v", other)
		}
		a.holds(t, "what was answered is written to, R2")
	}
}

// TestAnswersStay: what was answered is as it was, whatever is done behind it.
func TestAnswersStay(t *testing.T) {
	a := fresh()
	a.does(t, put(3, 1, 2, 1))
	a.does(t, log(3, 1, 1))
	pieces, live := a.n.Do(get(3)), a.n.Do(intents())
	wantPieces, wantLive := a.m.do(get(3)), a.m.do(intents())
	for what, f := range map[string]func(){
		"a Put": func() { a.does(t, put(3, 1, 5, 9)) }, "a Log": func() { a.does(t, log(3, 2, 9)) }, "a Release": func() { a.does(t, release(3, 1)) },
		"a Flush": func() { a.does(t, flush()) }, "a Crash": func() { a.crash(0) }, "a Lose": func() { a.lose() },
	} {
		f()
		if !sameRep(pieces, wantPieces) || !sameRep(live, wantLive) {
			t.Errorf("R2: behind %s the answers are %+v, %+v", what, pieces, live)
		}
	}
}

// TestNone: a nil node, and one that New did not make, keep nothing, and don't panic.
func TestNone(t *testing.T) {
	for what, n := range map[string]*node.Node{"nil": nil, "not made": {}} {
		for range 2 {
			for _, q := range append(wrongs(), get(3), put(3, 1, 2, 1), log(3, 1, 1), flush(), intents(), release(3, 1)) {
				if p := n.Do(q); !sameRep(p, node.Rep{Code: api.ErrArg}) {
					t.Errorf("R1: Do(%+v) of a node that is %s: %+v", q, what, p)
				}
			}
			if n.Boot() != 0 || n.Platter() != nil || n.Ring() != nil {
				t.Errorf("R1: a node that is %s: boot %d", what, n.Boot())
			}
			n.Crash(nil)
			n.Crash([]int{0, -1, math.MaxInt})
			n.Lose()
		}
	}
}
