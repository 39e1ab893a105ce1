// Package cause: whose fault it is: see DOC.md, chapter 1.
package cause

import (
	"errors"

	"corbel/api"
)

// On: as the chapter says.
type On struct {
	Node int
	Err  error
}

// Of: as the chapter says.
type Of struct {
	Stripe int
	Err    error
}

// All: as the chapter says.
type All struct {
	Errs []error
}

// Error: `node N: ` and what is wrapped.
func (e *On) Error() string { return text(e) }

// Unwrap: what is wrapped.
func (e *On) Unwrap() error {
	if e == nil {
		return nil
	}
	return e.Err
}

// Error: `stripe N: ` and what is wrapped.
func (e *Of) Error() string { return text(e) }

// Unwrap: what is wrapped.
func (e *Of) Unwrap() error {
	if e == nil {
		return nil
	}
	return e.Err
}

// Error: what is joined, with `; ` between.
func (e *All) Error() string { return text(e) }

// Unwrap: what is joined, in a list of its own.
func (e *All) Unwrap() []error {
	if e == nil {
		return nil
	}
	return append([]error(nil), e.Errs...)
}

// AtNode: e, as an error of that node.
func AtNode(node int, e error) error {
	if e == nil {
		return nil
	}
	return &On{Node: node, Err: e}
}

// OfStripe: e, as an error of that stripe.
func OfStripe(stripe int, e error) error {
	if e == nil {
		return nil
	}
	return &Of{Stripe: stripe, Err: e}
}

// Join: those of l that are not nil, as one error.
func Join(l []error) error {
	var errs []error
	for _, e := range l {
		if e != nil {
			errs = append(errs, e)
		}
	}
	switch len(errs) {
	case 0:
		return nil
	case 1:
		return errs[0]
	}
	return &All{Errs: errs}
}

// Code: the first api.Errno in e.
func Code(e error) api.Errno {
	if e == nil {
		return api.OK
	}
	var code api.Errno
	if !find(e, &code) {
		return api.ErrIO
	}
	return code
}

// Is: is that code anywhere in e?
func Is(e error, code api.Errno) bool { return holds(e, code) }

// Nodes: of all Ons in e, the outermost first.
func Nodes(e error) []int { return gather(nil, e) }

// Stripe: of the first Of in e.
func Stripe(e error) (int, bool) {
	var of *Of
	if !find(e, &of) || of == nil {
		return 0, false
	}
	return of.Stripe, true
}

// find is errors.As. Others' errors have methods of their own: where one panics, nothing is found.
func find(e error, target any) (found bool) {
	defer func() {
		if recover() != nil {
			found = false
		}
	}()
	return errors.As(e, target)
}

// holds is errors.Is, with the same care as find.
func holds(e error, code api.Errno) (found bool) {
	defer func() {
		if recover() != nil {
			found = false
		}
	}()
	return errors.Is(e, code)
}

// gather goes through e as errors.As does, which itself tells no more than the first On.
func gather(l []int, e error) []int {
	if on, ok := e.(*On); ok && on != nil {
		l = append(l, on.Node)
	}
	for _, part := range parts(e) {
		l = gather(l, part)
	}
	return l
}

// parts: what e wraps or joins; nothing, where an error of others panics.
func parts(e error) (l []error) {
	defer func() {
		if recover() != nil {
			l = nil
		}
	}()
	switch x := e.(type) {
	case interface{ Unwrap() error }:
		return []error{x.Unwrap()}
	case interface{ Unwrap() []error }:
		return x.Unwrap()
	}
	return nil
}
