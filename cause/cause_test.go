package cause_test

import (
	"errors"
	"fmt"
	"slices"
	"strings"
	"testing"

	"corbel/api"
	"corbel/cause"
)

var plain = errors.New("plain")

// Errors of others, each with a way of its own to wrap, join, or go wrong.
type (
	wraps struct{ under error }
	joins struct{ under []error }
	turns struct{ code api.Errno }
	holds struct{ *cause.On }
	fails struct{}
	child struct{ under error }
)

func (e wraps) Error() string   { return "wraps" }
func (e wraps) Unwrap() error   { return e.under }
func (e joins) Error() string   { return "joins" }
func (e joins) Unwrap() []error { return e.under }
func (e turns) Error() string   { return "turns" }
func (e turns) As(target any) bool {
	code, ok := target.(*api.Errno)
	if ok {
		*code = e.code
	}
	return ok
}
func (e turns) Is(target error) bool { return target == e.code }
func (e fails) Error() string        { panic("Error") }
func (e fails) Unwrap() error        { panic("Unwrap") }
func (e fails) Is(error) bool        { panic("Is") }
func (e fails) As(any) bool          { panic("As") }
func (e *child) Error() string       { return e.under.Error() }
func (e *child) Unwrap() error       { return e.under }

// nils are pointers to nothing, as errors.
func nils() []error {
	return []error{(*cause.On)(nil), (*cause.Of)(nil), (*cause.All)(nil), (*child)(nil)}
}

// chain is e in n wraps: Ons of nodes n - 1 to 0, with an Of, an All and one of others between.
func chain(n int, e error) error {
	for k := range n {
		switch k % 4 {
		case 0:
			e = cause.OfStripe(k, e)
		case 1:
			e = &cause.All{Errs: []error{e}}
		case 2:
			e = wraps{e}
		}
		e = cause.AtNode(k, e)
	}
	return e
}

func TestAtNode(t *testing.T) {
	if e := cause.AtNode(3, nil); e != nil {
		t.Errorf("1.1: of nil: %v", e)
	}
	for _, node := range []int{3, 0, -1, 99} {
		for _, under := range []error{api.ErrDown, plain, cause.AtNode(node, plain)} {
			on, ok := cause.AtNode(node, under).(*cause.On)
			if !ok || on.Node != node || on.Err != under || on.Unwrap() != under {
				t.Errorf("1.1: AtNode(%d, %v): %v", node, under, on)
			}
		}
	}
}

func TestOfStripe(t *testing.T) {
	if e := cause.OfStripe(3, nil); e != nil {
		t.Errorf("1.1: of nil: %v", e)
	}
	for _, stripe := range []int{7, 0, -1, 99} {
		for _, under := range []error{api.ErrDown, plain, cause.OfStripe(stripe, plain)} {
			of, ok := cause.OfStripe(stripe, under).(*cause.Of)
			if !ok || of.Stripe != stripe || of.Err != under || of.Unwrap() != under {
				t.Errorf("1.1: OfStripe(%d, %v): %v", stripe, under, of)
			}
		}
	}
}

func TestJoin(t *testing.T) {
	for _, l := range [][]error{nil, {}, {nil}, {nil, nil, nil}} {
		if e := cause.Join(l); e != nil {
			t.Errorf("1.1: Join(%v): %v", l, e)
		}
	}
	inner := &cause.All{Errs: []error{plain, plain}}
	for _, one := range []error{plain, api.ErrIO, inner, cause.AtNode(1, plain)} {
		for _, l := range [][]error{{one}, {nil, one}, {one, nil}, {nil, nil, one, nil}} {
			if e := cause.Join(l); e != one {
				t.Errorf("1.1: Join(%v): %v", l, e)
			}
		}
	}
	on := cause.AtNode(1, plain)
	l := []error{nil, on, nil, inner, on, plain, nil}
	all, ok := cause.Join(l).(*cause.All)
	if !ok || !slices.Equal(all.Errs, []error{on, inner, on, plain}) || !slices.Equal(all.Unwrap(), all.Errs) {
		t.Errorf("1.1: Join(%v): %v", l, all)
	}
}

// TestApart: no list is shared, changed, or kept.
func TestApart(t *testing.T) {
	room := []error{plain, nil, api.ErrDown, api.ErrLost, api.ErrFull}
	l := room[:3]
	all := cause.Join(l).(*cause.All)
	if !slices.Equal(room, []error{plain, nil, api.ErrDown, api.ErrLost, api.ErrFull}) {
		t.Errorf("R2: Join changed its list: %v", room)
	}
	for k := range room {
		room[k] = api.ErrBusy
	}
	if !slices.Equal(all.Errs, []error{plain, api.ErrDown}) {
		t.Errorf("R2: Join kept its list: %v", all.Errs)
	}
	l = []error{plain, api.ErrDown}
	all = cause.Join(l).(*cause.All)
	l[0] = api.ErrBusy
	if all.Errs[0] != plain {
		t.Errorf("R2: Join kept a list without nil ones: %v", all.Errs)
	}
	room = []error{plain, plain, plain}
	all = &cause.All{Errs: room[:2]}
	got := all.Unwrap()
	got[0] = api.ErrBusy
	_ = append(got, api.ErrBusy)
	if !slices.Equal(room, []error{plain, plain, plain}) {
		t.Errorf("R2: Unwrap shares its list: %v", room)
	}
}

func TestUnwrapOfNone(t *testing.T) {
	if (&cause.On{Node: 2}).Unwrap() != nil || (&cause.Of{Stripe: 2}).Unwrap() != nil {
		t.Error("1.1: Unwrap of an On or an Of that has nil")
	}
	if len((&cause.All{}).Unwrap()) != 0 || len((&cause.All{Errs: []error{}}).Unwrap()) != 0 {
		t.Error("1.1: Unwrap of an All of none")
	}
	if l := (&cause.All{Errs: []error{nil, plain}}).Unwrap(); !slices.Equal(l, []error{nil, plain}) {
		t.Errorf("1.1: Unwrap of an All that has nil: %v", l)
	}
	var on *cause.On
	var of *cause.Of
	var all *cause.All
	if on.Unwrap() != nil || of.Unwrap() != nil || len(all.Unwrap()) != 0 {
		t.Error("R1: Unwrap of a nil one")
	}
}

func TestError(t *testing.T) {
	for _, c := range []struct {
		e    error
		want string
	}{
		{cause.AtNode(3, api.ErrDown), "node 3: errno 4"},
		{cause.AtNode(-12, plain), "node -12: plain"},
		{cause.AtNode(0, errors.New("")), "node 0: "},
		{cause.OfStripe(39, api.ErrBusy), "stripe 39: errno 12"},
		{cause.OfStripe(-1, plain), "stripe -1: plain"},
		{cause.OfStripe(7, cause.AtNode(1, cause.OfStripe(2, plain))), "stripe 7: node 1: stripe 2: plain"},
		{cause.Join([]error{plain, api.ErrIO}), "plain; errno 8"},
		{cause.AtNode(1, cause.Join([]error{plain, cause.OfStripe(2, api.ErrArg), plain})), "node 1: plain; stripe 2: errno 1; plain"},
		{cause.Join([]error{cause.Join([]error{plain, plain}), api.ErrIO}), "plain; plain; errno 8"},
		{cause.AtNode(4, fmt.Errorf("so: %w", cause.AtNode(5, plain))), "node 4: so: node 5: plain"},
		{&cause.On{Node: 2}, "node 2: none"},
		{&cause.Of{Stripe: 2}, "stripe 2: none"},
		{&cause.All{}, ""},
		{&cause.All{Errs: []error{nil}}, "none"},
		{&cause.All{Errs: []error{plain}}, "plain"},
		{&cause.All{Errs: []error{nil, plain, nil}}, "none; plain; none"},
		{cause.AtNode(1, &cause.All{}), "node 1: "},
		{&cause.All{Errs: []error{&cause.On{}, &cause.Of{}}}, "node 0: none; stripe 0: none"},
		{cause.AtNode(1, fails{}), "node 1: none"},
		{&cause.All{Errs: nils()}, "none; none; none; none"},
	} {
		if got := c.e.Error(); got != c.want {
			t.Errorf("1.1: %q, not %q", got, c.want)
		}
	}
	for _, e := range nils()[:3] {
		if got := e.Error(); got != "none" {
			t.Errorf("R1: of a nil one: %q", got)
		}
	}
}

func TestCode(t *testing.T) {
	down, lost := cause.AtNode(1, api.ErrDown), cause.AtNode(4, api.ErrLost)
	for k, c := range []struct {
		e    error
		want api.Errno
	}{
		{nil, api.OK},
		{api.ErrPerm, api.ErrPerm},
		{api.Errno(77), api.Errno(77)},
		{plain, api.ErrIO},
		{down, api.ErrDown},
		{cause.OfStripe(7, cause.Join([]error{down, lost})), api.ErrDown},
		{cause.OfStripe(7, cause.Join([]error{lost, down})), api.ErrLost},
		{cause.AtNode(1, plain), api.ErrIO},
		{&cause.On{}, api.ErrIO},
		{&cause.Of{}, api.ErrIO},
		{&cause.All{}, api.ErrIO},
		{&cause.All{Errs: []error{nil, nil}}, api.ErrIO},
		{&cause.All{Errs: []error{nil, &cause.On{}, plain, lost, down}}, api.ErrLost},
		{&cause.All{Errs: []error{&cause.All{Errs: []error{plain, cause.OfStripe(1, down)}}, api.ErrArg}}, api.ErrDown},
		{fmt.Errorf("so: %w", lost), api.ErrLost},
		{fmt.Errorf("%w, %w", plain, errors.Join(plain, lost, down)), api.ErrLost},
		{cause.AtNode(1, wraps{cause.OfStripe(2, joins{[]error{nil, wraps{}, down, lost}})}), api.ErrDown},
		{cause.Join([]error{wraps{joins{}}, turns{api.ErrTwice}, down}), api.ErrTwice},
		{holds{&cause.On{Node: 3, Err: api.ErrFull}}, api.ErrFull},
		{fails{}, api.ErrIO},
	} {
		if got := cause.Code(c.e); got != c.want {
			t.Errorf("1.2: %d: %v: %d, not %d", k, c.e, got, c.want)
		}
	}
}

func TestIs(t *testing.T) {
	both := cause.OfStripe(7, cause.Join([]error{cause.AtNode(1, api.ErrDown), wraps{joins{[]error{nil, cause.AtNode(4, api.ErrLost)}}}}))
	for k, c := range []struct {
		e    error
		code api.Errno
		want bool
	}{
		{nil, api.OK, false},
		{nil, api.ErrIO, false},
		{api.ErrIO, api.ErrIO, true},
		{api.ErrIO, api.ErrArg, false},
		{api.ErrIO, api.OK, false},
		{both, api.ErrDown, true},
		{both, api.ErrLost, true},
		{both, api.ErrIO, false},
		{both, api.OK, false},
		{plain, api.ErrIO, false},
		{&cause.All{}, api.ErrIO, false},
		{&cause.All{Errs: []error{nil, &cause.Of{}, api.ErrNone}}, api.ErrNone, true},
		{&cause.On{}, api.ErrIO, false},
		{cause.AtNode(1, turns{api.ErrTwice}), api.ErrTwice, true},
		{cause.AtNode(1, turns{api.ErrTwice}), api.ErrBusy, false},
		{fails{}, api.ErrIO, false},
	} {
		if got := cause.Is(c.e, c.code); got != c.want {
			t.Errorf("1.2: %d: Is(%v, %d): %v", k, c.e, c.code, got)
		}
	}
}

func TestNodes(t *testing.T) {
	for k, c := range []struct {
		e    error
		want []int
	}{
		{nil, nil},
		{api.ErrDown, nil},
		{plain, nil},
		{cause.OfStripe(7, plain), nil},
		{&cause.All{}, nil},
		{&cause.On{Node: -3}, []int{-3}},
		{cause.OfStripe(7, cause.Join([]error{cause.AtNode(1, api.ErrDown), cause.AtNode(4, api.ErrLost)})), []int{1, 4}},
		{cause.AtNode(9, cause.AtNode(2, cause.AtNode(9, plain))), []int{9, 2, 9}},
		{&cause.All{Errs: []error{nil, &cause.On{Node: 8}, plain, cause.AtNode(6, nil), cause.AtNode(5, api.ErrFull)}}, []int{8, 5}},
		{cause.AtNode(0, cause.Join([]error{cause.AtNode(7, cause.Join([]error{cause.AtNode(6, plain), cause.AtNode(5, plain)})), cause.AtNode(1, cause.AtNode(2, plain))})), []int{0, 7, 6, 5, 1, 2}},
		{errors.Join(cause.AtNode(3, plain), nil, fmt.Errorf("%w, %w", cause.AtNode(1, plain), wraps{cause.AtNode(2, plain)}), cause.AtNode(0, plain)), []int{3, 1, 2, 0}},
		{joins{[]error{nil, wraps{}, joins{}, cause.AtNode(4, joins{[]error{cause.AtNode(2, plain), cause.AtNode(3, plain)}}), cause.AtNode(1, plain)}}, []int{4, 2, 3, 1}},
		{cause.Join([]error{cause.AtNode(1, plain), fails{}, cause.AtNode(2, plain)}), []int{1, 2}},
		{cause.AtNode(1, &cause.All{Errs: append(nils(), cause.AtNode(2, plain))}), []int{1, 2}},
	} {
		if got := cause.Nodes(c.e); !slices.Equal(got, c.want) {
			t.Errorf("1.2: %d: %v: %v, not %v", k, c.e, got, c.want)
		}
	}
}

func TestStripe(t *testing.T) {
	for k, c := range []struct {
		e      error
		stripe int
		found  bool
	}{
		{nil, 0, false},
		{api.ErrDown, 0, false},
		{plain, 0, false},
		{cause.AtNode(7, plain), 0, false},
		{&cause.All{}, 0, false},
		{&cause.All{Errs: []error{nil, plain}}, 0, false},
		{&cause.Of{Stripe: -5}, -5, true},
		{cause.OfStripe(0, plain), 0, true},
		{cause.OfStripe(7, cause.OfStripe(8, plain)), 7, true},
		{cause.AtNode(1, cause.Join([]error{cause.AtNode(2, cause.OfStripe(3, plain)), cause.OfStripe(4, plain)})), 3, true},
		{&cause.All{Errs: []error{nil, &cause.On{}, plain, cause.OfStripe(9, plain)}}, 9, true},
		{errors.Join(wraps{joins{[]error{plain, cause.OfStripe(5, plain)}}}, cause.OfStripe(6, plain)), 5, true},
		{fails{}, 0, false},
		{cause.AtNode(1, (*cause.Of)(nil)), 0, false},
	} {
		if stripe, found := cause.Stripe(c.e); stripe != c.stripe || found != c.found {
			t.Errorf("1.2: %d: %v: %d %v", k, c.e, stripe, found)
		}
	}
}

// TestNil: of pointers to nothing nothing is found, and nothing panics.
func TestNil(t *testing.T) {
	for k, e := range nils() {
		_, found := cause.Stripe(e)
		if cause.Code(e) != api.ErrIO || cause.Is(e, api.ErrIO) || len(cause.Nodes(e)) != 0 || found {
			t.Errorf("R1: nil %d", k)
		}
	}
}

// TestDeep: as many in one another as R6 lets.
func TestDeep(t *testing.T) {
	const most = 1 << 15
	e := chain(most, cause.OfStripe(77, api.ErrFull))
	nodes := cause.Nodes(e)
	if len(nodes) != most || nodes[0] != most-1 || nodes[most-1] != 0 {
		t.Errorf("1.2: %d nodes", len(nodes))
	}
	if stripe, found := cause.Stripe(e); stripe != most-4 || !found {
		t.Errorf("1.2: stripe %d", stripe)
	}
	if cause.Code(e) != api.ErrFull || !cause.Is(e, api.ErrFull) || cause.Is(e, api.ErrDown) {
		t.Error("1.2: the code of a deep one")
	}
	e = plain
	for k := range most * 2 {
		e = cause.AtNode(k%8, e)
	}
	if s := e.Error(); len(s) != most*2*len("node 0: ")+len("plain") || !strings.HasSuffix(s, "node 1: node 0: plain") {
		t.Errorf("1.1: a text of %d bytes", len(s))
	}
}
