package open

import (
	"corbel/api"
	"corbel/carry"
	"corbel/cause"
	"corbel/coder"
	"corbel/node"
	"corbel/place"
	"corbel/wire"
)

// told is an intent, and the node that told it.
type told struct {
	node   int
	intent api.Intent
}

// found is what the nodes have of a stripe.
type found struct {
	// intents: node by node, as they were told.
	intents []told
	// pieces: those that stand on their nodes.
	pieces []api.Piece
}

// ask: what the nodes have of each stripe. The first one that does not tell it ends it.
func ask(w *wire.Wire) ([]found, error) {
	stripes := make([]found, api.Stripes)
	for n := range api.Nodes {
		r, err := w.Call(n, node.Req{Kind: node.Intents})
		if err != nil {
			return nil, err
		}
		for _, i := range r.Intents {
			f := &stripes[i.Stripe]
			f.intents = append(f.intents, told{n, i})
		}
	}
	for stripe := range stripes {
		pieces, err := gather(w, stripe)
		if err != nil {
			return nil, err
		}
		stripes[stripe].pieces = pieces
	}
	return stripes, nil
}

// gather: the pieces of a stripe that stand on their nodes.
func gather(w *wire.Wire, stripe int) ([]api.Piece, error) {
	var l []api.Piece
	for index := range api.Chunks {
		r, err := w.Call(place.Node(stripe, index), node.Req{Kind: node.Get, Stripe: stripe})
		if err != nil {
			return nil, err
		}
		for _, p := range r.Pieces {
			if p.Index == index {
				l = append(l, p)
			}
		}
	}
	return l, nil
}

// known: what that tells of the stripe. What has an intent of its generation pends, as its chunks may not be flushed.
func (f found) known() carry.Known {
	k := carry.Known{Gen: f.gen(), Next: f.top() + 1}
	for _, t := range f.intents {
		if t.intent.Gen == k.Gen {
			k.Bytes = t.intent.Data
			break
		}
	}
	return k
}

// top: the greatest generation that was ever used, so far as anybody tells.
func (f found) top() int {
	top := 0
	for _, t := range f.intents {
		top = max(top, t.intent.Gen)
	}
	for _, p := range f.pieces {
		top = max(top, p.Gen)
	}
	return top
}

// gen: the greatest generation that can be led back to, by an intent or by enough pieces.
func (f found) gen() int {
	gen := 0
	for _, t := range f.intents {
		gen = max(gen, t.intent.Gen)
	}
	for _, p := range f.pieces {
		if p.Gen > gen && count(f.chunks(p.Gen)) >= api.Data {
			gen = p.Gen
		}
	}
	return gen
}

// chunks: the bytes of the pieces of a generation, each at its index.
func (f found) chunks(gen int) [][]byte {
	l := make([][]byte, api.Chunks)
	for _, p := range f.pieces {
		if p.Gen == gen {
			l[p.Index] = p.Data
		}
	}
	return l
}

// count: how many chunks there are.
func count(chunks [][]byte) int {
	n := 0
	for _, b := range chunks {
		n += min(len(b), 1)
	}
	return n
}

// mend makes the stripe right, if it may not be, and has its intents released.
func (f found) mend(c *carry.Carrier, stripe int) error {
	k := c.Stripes[stripe]
	chunks := f.chunks(k.Gen)
	if k.Gen == 0 || len(f.intents) == 0 && count(chunks) == api.Chunks {
		return nil
	}
	data := k.Bytes
	if !k.Pending() {
		data, _ = coder.New().Decode(chunks)
	}
	if err := c.Carry(stripe, k.Gen, data); err != nil {
		return err
	}
	if c.Stripes[stripe].Pending() {
		return cause.OfStripe(stripe, api.ErrIO)
	}
	for _, t := range f.intents {
		c.Release(t.node, stripe, t.intent.Gen)
	}
	return nil
}
