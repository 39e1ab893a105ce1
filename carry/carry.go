// Package carry: how a stripe's bytes get to its nodes, and back: see DOC.md, chapter 14. It is no layer: engine carries by it what is written, and open what it finds on the nodes.
package carry

import (
	"slices"

	"corbel/api"
	"corbel/cause"
	"corbel/coder"
	"corbel/node"
	"corbel/place"
	"corbel/wire"
)

// Known: what is known of a stripe.
type Known struct {
	// Gen: its generation; 0: nothing was ever written.
	Gen int
	// Next: the generation to use next.
	Next int
	// Doubt: did a write of it fail, so that some nodes may have an intent of what it is not?
	Doubt bool
	// Bytes: those of a pending one; none of any other.
	Bytes []byte
}

// Pending: does it stand on intents, as not all of its chunks are known to be on their nodes?
func (k Known) Pending() bool { return len(k.Bytes) > 0 }

// Carrier brings stripes to the nodes of a wire. Each stripe that its calls are given is one that there is: who calls asks place.Right.
type Carrier struct {
	Wire    *wire.Wire
	Stripes [api.Stripes]Known
	coder   *coder.Coder
}

// New: a carrier that knows of nothing written.
func New(w *wire.Wire) *Carrier {
	c := &Carrier{Wire: w, coder: coder.New()}
	for stripe := range c.Stripes {
		c.Stripes[stripe].Next = 1
	}
	return c
}

// Carry brings data to the nodes as that generation of the stripe: intents first, so that whoever falls behind that, it can be led back to. An error tells each node that did not have its intent.
func (c *Carrier) Carry(stripe, gen int, data []byte) error {
	if err := c.intend(node.Req{Kind: node.Log, Stripe: stripe, Gen: gen, Data: data}); err != nil {
		return err
	}
	k := &c.Stripes[stripe]
	k.Gen, k.Doubt, k.Bytes = gen, false, slices.Clone(data)
	c.Spread(stripe)
	return nil
}

// intend has so many nodes do the Log as an intent needs.
func (c *Carrier) intend(log node.Req) error {
	var errs []error
	copies := 0
	for _, n := range place.Logs(log.Stripe) {
		if err := c.log(n, log); err != nil {
			errs = append(errs, err)
			continue
		}
		copies++
		if copies == api.Copies {
			return nil
		}
	}
	return cause.OfStripe(log.Stripe, cause.Join(errs))
}

// log has a node do the Log; one whose ring is full is swept, and has one more go.
func (c *Carrier) log(n int, log node.Req) error {
	err := c.have(n, log)
	if !cause.Is(err, api.ErrFull) {
		return err
	}
	c.sweep(n)
	return c.have(n, log)
}

// have: the node does q and flushes it. Another boot behind q tells that it fell in between, and q may be gone.
func (c *Carrier) have(n int, q node.Req) error {
	did, err := c.Wire.Call(n, q)
	if err != nil {
		return err
	}
	flushed, err := c.Wire.Call(n, node.Req{Kind: node.Flush})
	if err != nil || flushed.Boot != did.Boot {
		return cause.AtNode(n, api.ErrLost)
	}
	return nil
}

// sweep releases what the node's ring holds and nobody needs.
func (c *Carrier) sweep(n int) {
	told, err := c.Wire.Call(n, node.Req{Kind: node.Intents})
	if err != nil {
		return
	}
	for _, i := range told.Intents {
		if c.spent(i) {
			c.Release(n, i.Stripe, i.Gen)
		}
	}
}

// spent: a newer generation, or all six chunks, stand for what the intent says. What is above its stripe's generation may have failed, or be on its way: it stays.
func (c *Carrier) spent(i api.Intent) bool {
	k := c.Stripes[i.Stripe]
	return i.Gen < k.Gen || i.Gen == k.Gen && !k.Pending()
}

// Release takes an intent from a node, if it hears of it: where it does not no harm is done, as the intent stays only a while longer.
func (c *Carrier) Release(n, stripe, gen int) {
	c.Wire.Call(n, node.Req{Kind: node.Release, Stripe: stripe, Gen: gen})
}

// Spread brings the chunks of a pending stripe to their nodes. It is pending no more if all did their Put; then nobody needs its intents.
func (c *Carrier) Spread(stripe int) {
	k := &c.Stripes[stripe]
	chunks, _ := c.coder.Encode(k.Bytes)
	done := 0
	for index, data := range chunks {
		put := node.Req{Kind: node.Put, Stripe: stripe, Gen: k.Gen, Index: index, Data: data}
		if c.have(place.Node(stripe, index), put) == nil {
			done++
		}
	}
	if done < api.Chunks {
		return
	}
	k.Bytes = nil
	for n := range api.Nodes {
		c.Release(n, stripe, k.Gen)
	}
}

// Fetch: the stripe's bytes, by its generation; an error tells each node from which no piece of it came.
func (c *Carrier) Fetch(stripe int) ([]byte, error) {
	k := c.Stripes[stripe]
	if k.Pending() {
		return slices.Clone(k.Bytes), nil
	}
	if k.Gen == 0 {
		return make([]byte, api.Stripe), nil
	}
	chunks := make([][]byte, api.Chunks)
	var errs []error
	for index, there := 0, 0; index < api.Chunks && there < api.Data; index++ {
		data, err := c.Piece(stripe, index)
		if err != nil {
			errs = append(errs, err)
			continue
		}
		chunks[index] = data
		there++
	}
	if data, ok := c.coder.Decode(chunks); ok {
		return data, nil
	}
	return nil, cause.OfStripe(stripe, cause.Join(errs))
}

// Piece: the bytes of the stripe's chunk of that index, if its node has it of the stripe's generation.
func (c *Carrier) Piece(stripe, index int) ([]byte, error) {
	n := place.Node(stripe, index)
	told, err := c.Wire.Call(n, node.Req{Kind: node.Get, Stripe: stripe})
	if err != nil {
		return nil, err
	}
	for _, p := range told.Pieces {
		if p.Gen == c.Stripes[stripe].Gen && p.Index == index {
			return p.Data, nil
		}
	}
	return nil, cause.AtNode(n, api.ErrNone)
}
