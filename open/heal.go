package open

import (
	"corbel/api"
	"corbel/carry"
	"corbel/cause"
	"corbel/engine"
	"corbel/pick"
)

// Missing: the stripes that may not be right, each with its lacking pieces as a Key below 0: the one in the greatest danger first.
func Missing(e *engine.Engine) ([]pick.Item, error) {
	if e == nil || e.Carrier == nil {
		return nil, api.ErrArg
	}
	h := pick.New()
	for stripe, k := range e.Carrier.Stripes {
		lack := lacking(e.Carrier, stripe)
		if lack > 0 || k.Pending() || k.Doubt {
			h.Put(stripe, -lack)
		}
	}
	return h.All(), nil
}

// lacking: how many of a stripe's pieces are not told by their nodes.
func lacking(c *carry.Carrier, stripe int) int {
	if c.Stripes[stripe].Gen == 0 {
		return 0
	}
	n := 0
	for index := range api.Chunks {
		if _, err := c.Piece(stripe, index); err != nil {
			n++
		}
	}
	return n
}

// Heal makes at most so many of the stripes right that Missing tells, and tells how many are, and each error on the way.
func Heal(e *engine.Engine, most int) (int, error) {
	l, err := Missing(e)
	if err != nil {
		return 0, err
	}
	right := 0
	var errs []error
	for _, i := range l[:min(max(most, 0), len(l))] {
		err := heal(e, i.ID)
		k := e.Carrier.Stripes[i.ID]
		if err == nil && !k.Pending() && !k.Doubt {
			right++
		}
		errs = append(errs, err)
	}
	return right, cause.Join(errs)
}

// heal brings a stripe's bytes to all its nodes anew. One that pends keeps its generation, as its intents lead to that.
func heal(e *engine.Engine, stripe int) error {
	data, err := e.Read(stripe)
	if err != nil {
		return err
	}
	if e.Carrier.Stripes[stripe].Pending() {
		e.Carrier.Spread(stripe)
		return nil
	}
	return e.Write(stripe, data)
}
