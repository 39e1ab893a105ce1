package cause

import (
	"strconv"
	"strings"
)

// none stands where there is no error to tell.
const none = "none"

// text writes into one builder: with a string a level a deep chain would be copied once for each of its parts.
func text(e error) string {
	var b strings.Builder
	tell(&b, e)
	return b.String()
}

func tell(b *strings.Builder, e error) {
	switch x := e.(type) {
	case *On:
		if x == nil {
			b.WriteString(none)
			return
		}
		tellUnder(b, "node ", x.Node, x.Err)
	case *Of:
		if x == nil {
			b.WriteString(none)
			return
		}
		tellUnder(b, "stripe ", x.Stripe, x.Err)
	case *All:
		if x == nil {
			b.WriteString(none)
			return
		}
		tellAll(b, x.Errs)
	default:
		b.WriteString(said(e))
	}
}

func tellUnder(b *strings.Builder, what string, n int, e error) {
	b.WriteString(what)
	b.WriteString(strconv.Itoa(n))
	b.WriteString(": ")
	tell(b, e)
}

func tellAll(b *strings.Builder, l []error) {
	for k, e := range l {
		if k > 0 {
			b.WriteString("; ")
		}
		tell(b, e)
	}
}

// said: the text of an error of others; none of one whose Error panics, as that of a nil pointer may.
func said(e error) (s string) {
	defer func() {
		if recover() != nil {
			s = none
		}
	}()
	if e == nil {
		return none
	}
	return e.Error()
}
