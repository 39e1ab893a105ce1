package carry_test

import (
	"bytes"
	"slices"
	"testing"

	"corbel/api"
	"corbel/carry"
	"corbel/cause"
	"corbel/coder"
	"corbel/node"
	"corbel/wire"
)

// some is a stripe's bytes.
func some(seed int) []byte {
	b := make([]byte, 128)
	for k := range b {
		b[k] = byte(seed + k*k)
	}
	return b
}

// pieces is how many of a stripe's pieces of that gen are on their nodes, flushed.
func pieces(w *wire.Wire, stripe, gen int) int {
	n := 0
	for index := range 6 {
		x := w.Node((stripe + index) % 8)
		for _, p := range x.Do(node.Req{Kind: node.Get, Stripe: stripe}).Pieces {
			if p.Gen == gen && p.Index == index && len(x.Platter().Pending()) == 0 {
				n++
			}
		}
	}
	return n
}

// intents is how many nodes have one.
func intents(w *wire.Wire) int {
	n := 0
	for k := range 8 {
		n += min(len(w.Node(k).Ring().Live()), 1)
	}
	return n
}

// is holds what is known of a stripe against what it must be.
func is(t *testing.T, what string, c *carry.Carrier, stripe int, want carry.Known) {
	t.Helper()
	got := c.Stripes[stripe]
	if got.Gen != want.Gen || got.Next != want.Next || got.Doubt != want.Doubt || !bytes.Equal(got.Bytes, want.Bytes) || got.Pending() != (len(want.Bytes) > 0) {
		t.Errorf("%s: %+v, want %+v", what, got, want)
	}
}

func TestNew(t *testing.T) {
	w := wire.New()
	c := carry.New(w)
	if c.Wire != w || w.Sent() != 0 {
		t.Errorf("New: another wire, or %d sent", w.Sent())
	}
	for k := range c.Stripes {
		is(t, "New", c, k, carry.Known{Next: 1})
	}
}

// TestCarry: as which generation hangs on what it is told, not on what comes next, and may be the one that the stripe has.
func TestCarry(t *testing.T) {
	w := wire.New()
	c := carry.New(w)
	c.Stripes[3].Doubt = true
	for _, gen := range []int{7, 7, 8} {
		if err := c.Carry(3, gen, some(gen)); err != nil {
			t.Errorf("14.2: Carry: %v", err)
		}
		is(t, "14.2: carried", c, 3, carry.Known{Gen: gen, Next: 1})
		if pieces(w, 3, gen) != 6 || intents(w) != 0 {
			t.Errorf("14.2: %d pieces, %d intents", pieces(w, 3, gen), intents(w))
		}
	}
	for n := range 6 {
		w.Down(n, true)
	}
	err := c.Carry(3, 9, some(9))
	if stripe, ok := cause.Stripe(err); stripe != 3 || !ok || !slices.Equal(cause.Nodes(err), []int{0, 1, 2, 3, 4, 5}) {
		t.Errorf("14.2: Carry: %v", err)
	}
	is(t, "14.2: not carried", c, 3, carry.Known{Gen: 8, Next: 1})
}

// TestSpread: a pending stripe's chunks are done again, till all are.
func TestSpread(t *testing.T) {
	w := wire.New()
	c := carry.New(w)
	w.Down(4, true)
	w.Down(6, true)
	b := some(5)
	if err := c.Carry(3, 5, b); err != nil {
		t.Errorf("14.2: Carry: %v", err)
	}
	b[0] ^= 1
	is(t, "14.2: two nodes down", c, 3, carry.Known{Gen: 5, Next: 1, Bytes: some(5)})
	w.Down(4, false)
	c.Spread(3)
	is(t, "14.2: one node down", c, 3, carry.Known{Gen: 5, Next: 1, Bytes: some(5)})
	if pieces(w, 3, 5) != 5 || intents(w) != 3 {
		t.Errorf("14.2: %d pieces, %d intents", pieces(w, 3, 5), intents(w))
	}
	w.Down(6, false)
	sent := w.Sent()
	c.Spread(3)
	is(t, "14.2: no node down", c, 3, carry.Known{Gen: 5, Next: 1})
	if pieces(w, 3, 5) != 6 || intents(w) != 0 || w.Sent()-sent != 12+8 {
		t.Errorf("14.2: %d pieces, %d intents, %d sent", pieces(w, 3, 5), intents(w), w.Sent()-sent)
	}
	// What does not pend has nothing to be spread.
	sent = w.Sent()
	c.Spread(3)
	c.Spread(4)
	if w.Sent() != sent {
		t.Errorf("14.2: %d sent, want none", w.Sent()-sent)
	}
}

// TestFetch: what pends, what was never written, and what stands on nodes.
func TestFetch(t *testing.T) {
	w := wire.New()
	c := carry.New(w)
	c.Stripes[1] = carry.Known{Gen: 4, Next: 6, Bytes: some(4)}
	for stripe, want := range [][]byte{make([]byte, 128), some(4)} {
		got, err := c.Fetch(stripe)
		if err != nil || !bytes.Equal(got, want) {
			t.Errorf("14.3: Fetch of %d: %x, %v", stripe, got, err)
		}
		got[0] ^= 1
		again, _ := c.Fetch(stripe)
		if !bytes.Equal(again, want) {
			t.Errorf("R2: Fetch of %d: %x", stripe, again)
		}
	}
	if w.Sent() != 0 {
		t.Errorf("14.3: %d sent, want none", w.Sent())
	}
	c.Stripes[2].Gen = 4
	if _, err := c.Fetch(2); !cause.Is(err, api.ErrNone) || !slices.Equal(cause.Nodes(err), []int{2, 3, 4, 5, 6, 7}) {
		t.Errorf("14.3: Fetch: %v", err)
	}
	c.Carry(2, 4, some(2))
	if got, err := c.Fetch(2); err != nil || !bytes.Equal(got, some(2)) {
		t.Errorf("14.3: Fetch: %x, %v", got, err)
	}
}

// TestPiece: of the stripe's generation and that index, or none.
func TestPiece(t *testing.T) {
	w := wire.New()
	c := carry.New(w)
	c.Carry(3, 2, some(1))
	chunks, _ := coder.New().Encode(some(1))
	for index, want := range chunks {
		if got, err := c.Piece(3, index); err != nil || !bytes.Equal(got, want) {
			t.Errorf("14.3: Piece %d: %x, %v", index, got, err)
		}
	}
	c.Stripes[3].Gen = 3
	if _, err := c.Piece(3, 1); !cause.Is(err, api.ErrNone) || !slices.Equal(cause.Nodes(err), []int{4}) {
		t.Errorf("14.3: Piece of another gen: %v", err)
	}
	w.Down(4, true)
	if _, err := c.Piece(3, 1); !cause.Is(err, api.ErrDown) || !slices.Equal(cause.Nodes(err), []int{4}) {
		t.Errorf("14.3: Piece of a node that is down: %v", err)
	}
}

// TestRelease: one node is told, and where it does not hear nothing comes of it.
func TestRelease(t *testing.T) {
	w := wire.New()
	c := carry.New(w)
	w.Down(4, true)
	c.Carry(3, 2, some(1))
	if intents(w) != 3 {
		t.Fatalf("14.2: %d intents", intents(w))
	}
	c.Release(1, 3, 1)
	w.Down(1, true)
	c.Release(1, 3, 2)
	if intents(w) != 3 {
		t.Errorf("14.2: %d intents, want 3", intents(w))
	}
	w.Down(1, false)
	c.Release(1, 3, 2)
	if intents(w) != 2 {
		t.Errorf("14.2: %d intents, want 2", intents(w))
	}
}
