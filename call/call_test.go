package call_test

import (
	"bytes"
	"math"
	"slices"
	"testing"

	"corbel/api"
	"corbel/call"
	"corbel/node"
)

// The greatest gen that there may be, and the greatest boot.
const (
	maxGen  = 1 << 40
	maxBoot = 1<<31 - 1
)

// data is that many bytes in a disorder that is the same each time.
func data(size, seed int) []byte {
	b, x := make([]byte, size), uint32(seed)
	for k := range b {
		x = x*1664525 + 1013904223
		b[k] = byte(x >> 24)
	}
	return b
}

// high are the lowest size bytes of n, the highest first.
func high(n, size int) []byte {
	var b []byte
	for k := size - 1; k >= 0; k-- {
		b = append(b, byte(n>>(8*k)))
	}
	return b
}

// whole is the number that those bytes are, the highest first.
func whole(b []byte) int {
	n := 0
	for _, x := range b {
		n = n*256 + int(x)
	}
	return n
}

// req is a request with Data of that many bytes.
func req(kind, stripe, gen, index, size int) node.Req {
	return node.Req{Kind: kind, Stripe: stripe, Gen: gen, Index: index, Data: data(size, kind+stripe*3+gen*5+index*7+size)}
}

// piece is one that is right, if its numbers are.
func piece(stripe, gen, index int) api.Piece {
	return api.Piece{Stripe: stripe, Gen: gen, Index: index, Data: data(32, stripe*1000+gen*7+index)}
}

// some is an intent that is right, if its numbers are.
func some(stripe, gen int) api.Intent {
	return api.Intent{Stripe: stripe, Gen: gen, Data: data(128, stripe*1000+gen*7+1)}
}

// pieces are that many, all different.
func pieces(n int) []api.Piece {
	var l []api.Piece
	for k := range n {
		l = append(l, piece(39-k, maxGen-k, 5-k%6))
	}
	return l
}

// intents are that many, all different.
func intents(n int) []api.Intent {
	var l []api.Intent
	for k := range n {
		l = append(l, some(39-k, maxGen-k))
	}
	return l
}

// reqBytes is a request by 11.1's own words, whatever stands in it; told is the Data's length that it tells.
func reqBytes(q node.Req, told int) []byte {
	return slices.Concat(high(q.Kind, 1), high(q.Stripe, 2), high(q.Gen, 6), high(q.Index, 1), high(told, 2), q.Data)
}

// laidReq is a request by 11.1's own words.
func laidReq(q node.Req) []byte { return reqBytes(q, len(q.Data)) }

// repBytes is a reply by 11.1's own words, whatever stands in it; it tells that many pieces and that many intents.
func repBytes(p node.Rep, ofPieces, ofIntents int) []byte {
	b := slices.Concat(high(int(p.Code), 1), high(p.Boot, 4), high(ofPieces, 1))
	for _, x := range p.Pieces {
		b = slices.Concat(b, high(x.Stripe, 1), high(x.Gen, 6), high(x.Index, 1), x.Data)
	}
	b = append(b, byte(ofIntents))
	for _, x := range p.Intents {
		b = slices.Concat(b, high(x.Stripe, 1), high(x.Gen, 6), x.Data)
	}
	return b
}

// laidRep is a reply by 11.1's own words.
func laidRep(p node.Rep) []byte { return repBytes(p, len(p.Pieces), len(p.Intents)) }

// reqOf is the request that those bytes are, if they are one, by the places at which its parts stand.
func reqOf(b []byte) (node.Req, bool) {
	if len(b) < 12 {
		return node.Req{}, false
	}
	q := node.Req{Kind: int(b[0]), Stripe: whole(b[1:3]), Gen: whole(b[3:9]), Index: int(b[9]), Data: b[12:]}
	if q.Kind == 0 || q.Kind > 6 || q.Gen > maxGen || len(q.Data) > 128 || whole(b[10:12]) != len(q.Data) {
		return node.Req{}, false
	}
	return q, true
}

// repOf is the reply that those bytes are, if they are one, by the places at which its parts stand.
func repOf(b []byte) (node.Rep, bool) {
	if len(b) < 7 || b[1] > 127 || b[5] > 2 || len(b) < 7+40*int(b[5]) {
		return node.Rep{}, false
	}
	p := node.Rep{Code: api.Errno(b[0]), Boot: whole(b[1:5])}
	at := 6 + 40*int(b[5])
	if b[at] > 16 || len(b) != at+1+135*int(b[at]) {
		return node.Rep{}, false
	}
	for x := range slices.Chunk(b[6:at], 40) {
		p.Pieces = append(p.Pieces, api.Piece{Stripe: int(x[0]), Gen: whole(x[1:7]), Index: int(x[7]), Data: x[8:]})
	}
	for x := range slices.Chunk(b[at+1:], 135) {
		p.Intents = append(p.Intents, api.Intent{Stripe: int(x[0]), Gen: whole(x[1:7]), Data: x[7:]})
	}
	for _, x := range p.Pieces {
		if x.Stripe > 39 || x.Gen == 0 || x.Gen > maxGen || x.Index > 5 {
			return node.Rep{}, false
		}
	}
	for _, x := range p.Intents {
		if x.Stripe > 39 || x.Gen == 0 || x.Gen > maxGen {
			return node.Rep{}, false
		}
	}
	return p, true
}

func sameReq(a, b node.Req) bool {
	return a.Kind == b.Kind && a.Stripe == b.Stripe && a.Gen == b.Gen && a.Index == b.Index && string(a.Data) == string(b.Data)
}

func samePiece(a, b api.Piece) bool {
	return a.Stripe == b.Stripe && a.Gen == b.Gen && a.Index == b.Index && string(a.Data) == string(b.Data)
}

func sameIntent(a, b api.Intent) bool {
	return a.Stripe == b.Stripe && a.Gen == b.Gen && string(a.Data) == string(b.Data)
}

// sameRep is call.SameRep by its fields.
func sameRep(a, b node.Rep) bool {
	return a.Code == b.Code && a.Boot == b.Boot && slices.EqualFunc(a.Pieces, b.Pieces, samePiece) && slices.EqualFunc(a.Intents, b.Intents, sameIntent)
}

// laysReq checks that a request is laid as 11.1 says, and leads back.
func laysReq(t *testing.T, q node.Req) {
	t.Helper()
	b, e := call.LayReq(q)
	if e != api.OK || !bytes.Equal(b, laidReq(q)) {
		t.Fatalf("11.1: LayReq(%+v): %x %d, not %x", q, b, e, laidReq(q))
	}
	if got, e := call.ReadReq(laidReq(q)); e != api.OK || !sameReq(got, q) {
		t.Fatalf("11.1: ReadReq(%x): %+v %d, not %+v", laidReq(q), got, e, q)
	}
}

// refusesReq checks that a request may not be laid, and beside the error nothing is told.
func refusesReq(t *testing.T, what string, q node.Req) {
	t.Helper()
	if b, e := call.LayReq(q); e != api.ErrArg || len(b) != 0 {
		t.Errorf("11.1, R3: LayReq, %s, (%+v): %x %d", what, q, b, e)
	}
}

// laysRep checks that a reply is laid as 11.1 says, and leads back.
func laysRep(t *testing.T, p node.Rep) {
	t.Helper()
	b, e := call.LayRep(p)
	if e != api.OK || !bytes.Equal(b, laidRep(p)) {
		t.Fatalf("11.1: LayRep(%+v): %x %d, not %x", p, b, e, laidRep(p))
	}
	if got, e := call.ReadRep(laidRep(p)); e != api.OK || !sameRep(got, p) {
		t.Fatalf("11.1: ReadRep(%x): %+v %d, not %+v", laidRep(p), got, e, p)
	}
}

// refusesRep checks that a reply may not be laid, and beside the error nothing is told.
func refusesRep(t *testing.T, what string, p node.Rep) {
	t.Helper()
	if b, e := call.LayRep(p); e != api.ErrArg || len(b) != 0 {
		t.Errorf("11.1, R3: LayRep, %s, (%+v): %x %d", what, p, b, e)
	}
}

// readsReq checks that bytes are read as what they are, be it none; what is read is laid again as the same bytes.
func readsReq(t *testing.T, what string, b []byte) bool {
	t.Helper()
	want, ok := reqOf(b)
	e := api.OK
	if !ok {
		e = api.ErrForm
	}
	got, is := call.ReadReq(b)
	if is != e || !sameReq(got, want) {
		t.Fatalf("11.1, R3: ReadReq, %s, (%x): %+v %d, not %+v %d", what, b, got, is, want, e)
	}
	if !ok {
		return false
	}
	if again, e := call.LayReq(got); e != api.OK || !bytes.Equal(again, b) {
		t.Fatalf("11.1: LayReq of what was read, %s, (%x): %x %d", what, b, again, e)
	}
	return true
}

// readsRep checks that bytes are read as what they are, be it none; what is read is laid again as the same bytes.
func readsRep(t *testing.T, what string, b []byte) bool {
	t.Helper()
	want, ok := repOf(b)
	e := api.OK
	if !ok {
		e = api.ErrForm
	}
	got, is := call.ReadRep(b)
	if is != e || !sameRep(got, want) {
		t.Fatalf("11.1, R3: ReadRep, %s, (%x): %+v %d, not %+v %d", what, b, got, is, want, e)
	}
	if !ok {
		return false
	}
	if again, e := call.LayRep(got); e != api.OK || !bytes.Equal(again, b) {
		t.Fatalf("11.1: LayRep of what was read, %s, (%x): %x %d", what, b, again, e)
	}
	return true
}

// noReq checks that bytes are no request, and beside the error nothing is told.
func noReq(t *testing.T, what string, b []byte) {
	t.Helper()
	if q, e := call.ReadReq(b); e != api.ErrForm || !sameReq(q, node.Req{}) {
		t.Errorf("11.1, R3: ReadReq, %s, (%x): %+v %d", what, b, q, e)
	}
}

// noRep checks that bytes are no reply, and beside the error nothing is told.
func noRep(t *testing.T, what string, b []byte) {
	t.Helper()
	if p, e := call.ReadRep(b); e != api.ErrForm || !sameRep(p, node.Rep{}) {
		t.Errorf("11.1, R3: ReadRep, %s, (%x): %+v %d", what, b, p, e)
	}
}

func TestExample(t *testing.T) {
	b, e := call.LayReq(node.Req{Kind: node.Flush})
	if e != api.OK || !bytes.Equal(b, []byte{4, 0, 0, 0, 0, 0, 0, 0, 0, 0, 0, 0}) {
		t.Errorf("11.1: LayReq of a Flush: %x %d", b, e)
	}
	q, e := call.ReadReq([]byte{4, 0, 0, 0, 0, 0, 0, 0, 0, 0, 0, 0})
	if e != api.OK || !sameReq(q, node.Req{Kind: node.Flush}) {
		t.Errorf("11.1: ReadReq of a Flush: %+v %d", q, e)
	}
}

// TestReqWritten: requests with their bytes written out.
func TestReqWritten(t *testing.T) {
	long := data(128, 9)
	for _, c := range []struct {
		q node.Req
		b []byte
	}{
		{node.Req{Kind: node.Get, Stripe: 0x0102, Gen: 0x0304050607, Index: 8}, []byte{1, 1, 2, 0, 3, 4, 5, 6, 7, 8, 0, 0}},
		{node.Req{Kind: node.Put, Stripe: 39, Gen: 1 << 40, Index: 5, Data: []byte{7, 8}}, []byte{2, 0, 39, 1, 0, 0, 0, 0, 0, 5, 0, 2, 7, 8}},
		{node.Req{Kind: node.Log, Stripe: 65535, Gen: 255, Data: long}, append([]byte{3, 255, 255, 0, 0, 0, 0, 0, 255, 0, 0, 128}, long...)},
		{node.Req{Kind: node.Flush, Index: 255, Data: []byte{0}}, []byte{4, 0, 0, 0, 0, 0, 0, 0, 0, 255, 0, 1, 0}},
		{node.Req{Kind: node.Intents, Stripe: 256, Gen: 256}, []byte{5, 1, 0, 0, 0, 0, 0, 1, 0, 0, 0, 0}},
		{node.Req{Kind: node.Release, Stripe: 1, Gen: 1<<40 - 1, Index: 1}, []byte{6, 0, 1, 0, 255, 255, 255, 255, 255, 1, 0, 0}},
	} {
		if b, e := call.LayReq(c.q); e != api.OK || !bytes.Equal(b, c.b) {
			t.Errorf("11.1: LayReq(%+v): %x %d, not %x", c.q, b, e, c.b)
		}
		if q, e := call.ReadReq(c.b); e != api.OK || !sameReq(q, c.q) {
			t.Errorf("11.1: ReadReq(%x): %+v %d, not %+v", c.b, q, e, c.q)
		}
	}
}

// TestReqThereAndBack: each Kind with numbers at both edges and between, with data and with none.
func TestReqThereAndBack(t *testing.T) {
	for kind := 1; kind <= 6; kind++ {
		for _, stripe := range []int{0, 1, 39, 40, 255, 256, 0x0102, 65534, 65535} {
			for _, gen := range []int{0, 1, 255, 256, 1 << 16, 1<<32 - 1, 1 << 32, 0x0102030405, maxGen - 1, maxGen} {
				for _, index := range []int{0, 1, 5, 6, 254, 255} {
					for _, size := range []int{0, 1, 32, 127, 128} {
						laysReq(t, req(kind, stripe, gen, index, size))
					}
				}
			}
		}
	}
	for _, fill := range []byte{0, 1, 0x80, 0xff} {
		for size := range 129 {
			laysReq(t, node.Req{Kind: node.Put, Data: bytes.Repeat([]byte{fill}, size)})
		}
	}
	laysReq(t, node.Req{Kind: node.Put, Data: []byte{}})
	laysReq(t, node.Req{Kind: node.Put, Data: append(data(128, 1), 1, 2, 3)[:128]})
}

// TestReqEach: each number of a request by itself, within its edges and past them.
func TestReqEach(t *testing.T) {
	laid := func(q node.Req, may bool) {
		t.Helper()
		if may {
			laysReq(t, q)
		} else {
			refusesReq(t, "a number by itself", q)
		}
	}
	for n := -300; n < 600; n++ {
		laid(node.Req{Kind: n}, n >= 1 && n <= 6)
		laid(req(2, 3, 4, n, 5), n >= 0 && n <= 255)
		laid(req(2, n, 4, 5, 6), n >= 0)
		laid(req(2, 3, n, 5, 6), n >= 0)
		laid(req(2, 65535+n, 4, 5, 6), n <= 0)
		laid(req(2, 3, maxGen+n, 5, 6), n <= 0)
		if n >= 0 {
			laid(req(2, 3, 4, 5, n), n <= 128)
		}
	}
	for n := range 65536 {
		laid(node.Req{Kind: node.Get, Stripe: n}, true)
	}
	for bit := range 63 {
		laid(req(1, 1<<bit, 0, 0, 0), bit < 16)
		laid(req(1, 0, 1<<bit, 0, 0), bit <= 40)
		laid(req(1, 0, 0, 1<<bit, 0), bit < 8)
		laid(req(1<<bit, 0, 0, 0, 0), bit < 3)
		// Of these the lowest bytes are numbers that may be.
		laid(req(1, 1<<bit+1, 0, 0, 0), bit < 16)
		laid(req(1, 0, 1<<bit+1, 0, 0), bit < 40)
		laid(req(1, 0, 0, 1<<bit+1, 0), bit < 8)
		laid(req(1<<bit+1, 0, 0, 0, 0), bit < 3)
	}
}

// TestReqWrong: requests of which one thing, or all, may not be, far outside too.
func TestReqWrong(t *testing.T) {
	refusesReq(t, "nothing set", node.Req{})
	for _, n := range []int{math.MinInt, math.MinInt + 1, math.MinInt + 2, -1 << 32, -1<<32 + 1, -65535, -255, -1, math.MaxInt, math.MaxInt - 1, 1 << 48, 1<<48 + 1, 1<<56 + 1} {
		refusesReq(t, "Kind", req(n, 0, 0, 0, 0))
		refusesReq(t, "Stripe", req(1, n, 0, 0, 0))
		refusesReq(t, "Gen", req(1, 0, n, 0, 0))
		refusesReq(t, "Index", req(1, 0, 0, n, 0))
		refusesReq(t, "all", req(n, n, n, n, 129))
	}
	for _, size := range []int{129, 255, 256, 257, 65535, 65536, 65537, 65536 + 128, 1 << 20} {
		for kind := 1; kind <= 6; kind++ {
			refusesReq(t, "too much data", req(kind, 0, 0, 0, size))
		}
	}
}

// TestReqCut: bytes of less and of more than a request takes, at either end; spare room is not asked.
func TestReqCut(t *testing.T) {
	noReq(t, "nil", nil)
	noReq(t, "no bytes", []byte{})
	for kind := 1; kind <= 6; kind++ {
		for _, size := range []int{0, 1, 32, 128} {
			b := laidReq(req(kind, 39, 258, 5, size))
			for n := range b {
				noReq(t, "its begin, the others behind it", b[:n])
				noReq(t, "its begin", bytes.Clone(b[:n]))
			}
			for n := 1; n <= len(b); n++ {
				readsReq(t, "its end", b[n:])
			}
			for n := 1; n < 300; n++ {
				noReq(t, "0s behind it", append(bytes.Clone(b), make([]byte, n)...))
				noReq(t, "bytes behind it", append(bytes.Clone(b), data(n, n)...))
			}
			noReq(t, "another one behind it", slices.Concat(b, b))
			noReq(t, "a byte ahead of it", slices.Concat([]byte{1}, b))
			if !readsReq(t, "spare room behind it", append(bytes.Clone(b), 1, 2, 3)[:len(b)]) {
				t.Errorf("11.1: ReadReq of %x: none", b)
			}
		}
	}
}

// TestReqLength: a length that says more, or less, than there is, in bytes that are right else.
func TestReqLength(t *testing.T) {
	for _, size := range []int{0, 1, 2, 127, 128, 129, 255, 256, 257, 300, 65535} {
		q := req(3, 39, 258, 5, size)
		for told := range 65536 {
			if told > 700 && told < 65000 && told%97 != 0 {
				continue
			}
			if ok := readsReq(t, "a length", reqBytes(q, told)); ok != (told == size && size <= 128) {
				t.Fatalf("11.1: ReadReq of %d bytes that tells %d: %v", size, told, ok)
			}
		}
	}
}

// TestReqTurned: each byte turned to each other value.
func TestReqTurned(t *testing.T) {
	for _, q := range []node.Req{req(1, 0, 0, 0, 0), req(6, 65535, maxGen, 255, 128), req(3, 258, 0x0102030405, 4, 32)} {
		b := laidReq(q)
		if !readsReq(t, "the whole", b) {
			t.Fatalf("11.1: ReadReq of %x: none", b)
		}
		for k := range b {
			for by := 1; by < 256; by++ {
				turned := bytes.Clone(b)
				turned[k] ^= byte(by)
				readsReq(t, "a byte turned", turned)
			}
		}
	}
}

// TestReqNumbers: bytes with a number that may not be laid.
func TestReqNumbers(t *testing.T) {
	for kind := range 256 {
		if ok := readsReq(t, "Kind", laidReq(req(kind, 1, 1, 1, 1))); ok != (kind >= 1 && kind <= 6) {
			t.Errorf("11.1: ReadReq of Kind %d: %v", kind, ok)
		}
	}
	for _, gen := range []int{maxGen + 1, maxGen + 255, maxGen + 256, 2*maxGen - 1, 2 * maxGen, 3 * maxGen, 255 * maxGen, 1<<48 - 1} {
		noReq(t, "a gen that may not be", laidReq(req(1, 0, gen, 0, 0)))
	}
	for bit := range 48 {
		if ok := readsReq(t, "a gen of one bit", laidReq(req(1, 0, 1<<bit, 0, 0))); ok != (bit <= 40) {
			t.Errorf("11.1: ReadReq of gen 1<<%d: %v", bit, ok)
		}
	}
}

// TestReqAny: bytes in disorder, and such as are near to a request.
func TestReqAny(t *testing.T) {
	read := 0
	for n := range 60000 {
		b := data(n%200, n)
		readsReq(t, "any bytes", b)
		if len(b) < 12 {
			continue
		}
		b[0], b[3], b[10], b[11] = b[0]%8, b[3]%3, 0, byte(len(b)-12+n%5/4)
		if readsReq(t, "near to one", b) {
			read++
		}
	}
	if read < 1000 {
		t.Errorf("only %d were requests", read)
	}
	for n := range 400 {
		for _, fill := range []byte{0, 1, 2, 6, 0x7f, 0x80, 0xff} {
			readsReq(t, "the same byte", bytes.Repeat([]byte{fill}, n))
		}
	}
}

// TestRepWritten: replies with their bytes written out.
func TestRepWritten(t *testing.T) {
	one, two := data(32, 1), data(32, 2)
	all := data(128, 3)
	for _, c := range []struct {
		p node.Rep
		b []byte
	}{
		{node.Rep{}, []byte{0, 0, 0, 0, 0, 0, 0}},
		{node.Rep{Boot: 1}, []byte{0, 0, 0, 0, 1, 0, 0}},
		{node.Rep{Code: api.ErrFull, Boot: 0x01020304}, []byte{6, 1, 2, 3, 4, 0, 0}},
		{node.Rep{Code: 255, Boot: maxBoot}, []byte{255, 127, 255, 255, 255, 0, 0}},
		{
			node.Rep{Boot: 2, Pieces: []api.Piece{{Stripe: 39, Gen: 0x0102030405, Index: 5, Data: one}}},
			slices.Concat([]byte{0, 0, 0, 0, 2, 1, 39, 0, 1, 2, 3, 4, 5, 5}, one, []byte{0}),
		},
		{
			node.Rep{Boot: 2, Pieces: []api.Piece{{Stripe: 7, Gen: maxGen, Index: 3, Data: two}, {Stripe: 0, Gen: 1, Index: 0, Data: one}}},
			slices.Concat([]byte{0, 0, 0, 0, 2, 2, 7, 1, 0, 0, 0, 0, 0, 3}, two, []byte{0, 0, 0, 0, 0, 0, 1, 0}, one, []byte{0}),
		},
		{
			node.Rep{Boot: 2, Intents: []api.Intent{{Stripe: 38, Gen: 258, Data: all}}},
			slices.Concat([]byte{0, 0, 0, 0, 2, 0, 1, 38, 0, 0, 0, 0, 1, 2}, all),
		},
		{
			node.Rep{Code: 1, Pieces: []api.Piece{{Stripe: 4, Gen: 9, Index: 2, Data: one}}, Intents: []api.Intent{{Stripe: 0, Gen: 1, Data: all}, {Stripe: 39, Gen: maxGen, Data: all}}},
			slices.Concat([]byte{1, 0, 0, 0, 0, 1, 4, 0, 0, 0, 0, 0, 9, 2}, one, []byte{2, 0, 0, 0, 0, 0, 0, 1}, all, []byte{39, 1, 0, 0, 0, 0, 0}, all),
		},
	} {
		if b, e := call.LayRep(c.p); e != api.OK || !bytes.Equal(b, c.b) {
			t.Errorf("11.1: LayRep(%+v): %x %d, not %x", c.p, b, e, c.b)
		}
		if p, e := call.ReadRep(c.b); e != api.OK || !sameRep(p, c.p) {
			t.Errorf("11.1: ReadRep(%x): %+v %d, not %+v", c.b, p, e, c.p)
		}
	}
}

// TestRepThereAndBack: as many pieces and as many intents as there may be of either, with each other.
func TestRepThereAndBack(t *testing.T) {
	for ofPieces := range 3 {
		for ofIntents := range 17 {
			for _, code := range []api.Errno{0, 1, 12, 13, 127, 128, 254, 255} {
				for _, boot := range []int{0, 1, 255, 256, 65536, 1 << 24, 0x01020304, maxBoot - 1, maxBoot} {
					laysRep(t, node.Rep{Code: code, Boot: boot, Pieces: pieces(ofPieces), Intents: intents(ofIntents)})
				}
			}
		}
	}
	laysRep(t, node.Rep{Pieces: []api.Piece{}, Intents: []api.Intent{}})
	// Two of the same are laid as they are given, and so are those of a stripe of which the lesser gen comes first.
	laysRep(t, node.Rep{Pieces: []api.Piece{piece(1, 2, 3), piece(1, 2, 3)}, Intents: slices.Repeat([]api.Intent{some(1, 2)}, 16)})
	laysRep(t, node.Rep{Pieces: []api.Piece{piece(1, 1, 3), piece(1, 2, 3)}})
}

// eachRep makes replies with that piece, and that intent, at each place at which one may stand.
func eachRep(p api.Piece, i api.Intent) (ofPiece, ofIntent []node.Rep) {
	for n := 1; n <= 2; n++ {
		for k := range n {
			l := pieces(n)
			l[k] = p
			ofPiece = append(ofPiece, node.Rep{Boot: 1, Pieces: l}, node.Rep{Boot: 1, Pieces: l, Intents: intents(2)})
		}
	}
	for _, n := range []int{1, 2, 16} {
		for k := range n {
			l := intents(n)
			l[k] = i
			ofIntent = append(ofIntent, node.Rep{Boot: 1, Intents: l}, node.Rep{Boot: 1, Pieces: pieces(2), Intents: l})
		}
	}
	return ofPiece, ofIntent
}

// laidEach checks whether replies may be laid.
func laidEach(t *testing.T, what string, l []node.Rep, may bool) {
	t.Helper()
	for _, p := range l {
		if may {
			laysRep(t, p)
		} else {
			refusesRep(t, what, p)
		}
	}
}

// TestRepStripes: each Stripe of a piece and of an intent by itself.
func TestRepStripes(t *testing.T) {
	far := []int{math.MinInt, -1 << 32, 1 << 32, 1<<32 + 1, math.MaxInt}
	for n := -20; n < 300; n++ {
		far = append(far, n)
	}
	for _, n := range far {
		ofPiece, ofIntent := eachRep(piece(n, 1, 0), some(n, 1))
		laidEach(t, "a piece's Stripe", ofPiece, n >= 0 && n < 40)
		laidEach(t, "an intent's Stripe", ofIntent, n >= 0 && n < 40)
	}
}

// TestRepGens: each kind of Gen of a piece and of an intent by itself.
func TestRepGens(t *testing.T) {
	for _, n := range []int{math.MinInt, -maxGen, -1, 0, 1, 2, 255, 256, 1<<32 - 1, 1 << 32, maxGen - 1, maxGen, maxGen + 1, 2 * maxGen, 1<<48 - 1, 1 << 48, 1<<48 + 1, math.MaxInt} {
		ofPiece, ofIntent := eachRep(piece(5, n, 1), some(5, n))
		laidEach(t, "a piece's Gen", ofPiece, n >= 1 && n <= maxGen)
		laidEach(t, "an intent's Gen", ofIntent, n >= 1 && n <= maxGen)
	}
}

// TestRepIndexes: each Index of a piece by itself.
func TestRepIndexes(t *testing.T) {
	far := []int{math.MinInt, -256, 512, 1 << 32, math.MaxInt}
	for n := -10; n < 260; n++ {
		far = append(far, n)
	}
	for _, n := range far {
		ofPiece, _ := eachRep(piece(5, 6, n), api.Intent{})
		laidEach(t, "a piece's Index", ofPiece, n >= 0 && n < 6)
	}
}

// TestRepData: Data of each length, of a piece and of an intent by itself.
func TestRepData(t *testing.T) {
	for size := range 300 {
		p, i := piece(5, 6, 1), some(5, 6)
		p.Data, i.Data = data(size, size), data(size, size)
		ofPiece, ofIntent := eachRep(p, i)
		laidEach(t, "a piece's Data", ofPiece, size == 32)
		laidEach(t, "an intent's Data", ofIntent, size == 128)
	}
}

// TestRepWrong: a Code, a Boot and how many there are, each by itself, past their edges.
func TestRepWrong(t *testing.T) {
	for _, n := range []int{math.MinInt, math.MinInt + 1, -1 << 32, -256, -255, -1, 256, 257, 511, 1 << 16, 1 << 32, 1<<32 + 1, math.MaxInt} {
		refusesRep(t, "Code", node.Rep{Code: api.Errno(n)})
		refusesRep(t, "Code", node.Rep{Code: api.Errno(n), Boot: 1, Pieces: pieces(1), Intents: intents(1)})
	}
	for _, n := range []int{math.MinInt, math.MinInt + 1, -1 << 32, -1<<31 - 1, -1 << 31, -1, 1 << 31, 1<<31 + 1, 1<<32 - 1, 1 << 32, 1<<32 + 1, math.MaxInt} {
		refusesRep(t, "Boot", node.Rep{Boot: n})
		refusesRep(t, "Boot", node.Rep{Boot: n, Pieces: pieces(1), Intents: intents(1)})
	}
	for n := range 256 {
		laysRep(t, node.Rep{Code: api.Errno(n), Boot: n})
	}
	for _, n := range []int{3, 4, 255, 256, 257, 258, 512} {
		refusesRep(t, "too many pieces", node.Rep{Pieces: slices.Repeat([]api.Piece{piece(1, 2, 3)}, n)})
		refusesRep(t, "too many pieces", node.Rep{Pieces: slices.Repeat([]api.Piece{piece(1, 2, 3)}, n), Intents: intents(16)})
	}
	for _, n := range []int{17, 18, 32, 255, 256, 257, 272, 512} {
		refusesRep(t, "too many intents", node.Rep{Intents: slices.Repeat([]api.Intent{some(1, 2)}, n)})
		refusesRep(t, "too many intents", node.Rep{Pieces: pieces(2), Intents: slices.Repeat([]api.Intent{some(1, 2)}, n)})
	}
	refusesRep(t, "a zero piece", node.Rep{Pieces: make([]api.Piece, 1)})
	refusesRep(t, "a zero intent", node.Rep{Intents: make([]api.Intent, 1)})
	refusesRep(t, "all", node.Rep{Code: -1, Boot: -1, Pieces: make([]api.Piece, 3), Intents: make([]api.Intent, 17)})
}

// someReps are replies of each shape.
func someReps() []node.Rep {
	return []node.Rep{
		{},
		{Code: 255, Boot: maxBoot},
		{Boot: 3, Pieces: pieces(1)},
		{Boot: 4, Pieces: pieces(2)},
		{Boot: 5, Intents: intents(1)},
		{Boot: 6, Intents: intents(16)},
		{Code: 1, Boot: 7, Pieces: pieces(2), Intents: intents(2)},
		{Code: 12, Boot: 8, Pieces: pieces(1), Intents: intents(16)},
	}
}

// TestRepCut: bytes of less and of more than a reply takes, at either end; spare room is not asked.
func TestRepCut(t *testing.T) {
	noRep(t, "nil", nil)
	noRep(t, "no bytes", []byte{})
	for _, p := range someReps() {
		b := laidRep(p)
		for n := range b {
			noRep(t, "its begin, the others behind it", b[:n])
			noRep(t, "its begin", bytes.Clone(b[:n]))
		}
		for n := 1; n <= len(b); n++ {
			readsRep(t, "its end", b[n:])
		}
		for n := 1; n < 300; n++ {
			noRep(t, "0s behind it", append(bytes.Clone(b), make([]byte, n)...))
			noRep(t, "bytes behind it", append(bytes.Clone(b), data(n, n)...))
		}
		noRep(t, "another one behind it", slices.Concat(b, b))
		noRep(t, "a byte ahead of it", slices.Concat([]byte{0}, b))
		if !readsRep(t, "spare room behind it", append(bytes.Clone(b), 1, 2, 3)[:len(b)]) {
			t.Errorf("11.1: ReadRep of %x: none", b)
		}
	}
}

// TestRepCounts: counts that say more, or less, than there is, in bytes that are right else; and as many as they say, but too many.
func TestRepCounts(t *testing.T) {
	for _, p := range []node.Rep{{}, {Pieces: pieces(1)}, {Pieces: pieces(2)}, {Pieces: slices.Repeat(pieces(2), 2)}, {Intents: intents(1)}, {Intents: intents(16)}, {Intents: intents(17)}, {Pieces: pieces(2), Intents: intents(2)}} {
		for told := range 256 {
			if ok := readsRep(t, "how many pieces", repBytes(p, told, len(p.Intents))); ok && told != len(p.Pieces) {
				t.Errorf("11.1: ReadRep of %d pieces that tells %d: true", len(p.Pieces), told)
			}
			if ok := readsRep(t, "how many intents", repBytes(p, len(p.Pieces), told)); ok && told != len(p.Intents) {
				t.Errorf("11.1: ReadRep of %d intents that tells %d: true", len(p.Intents), told)
			}
		}
	}
	for n := range 256 {
		p := node.Rep{Pieces: slices.Repeat([]api.Piece{piece(1, 2, 3)}, n)}
		if ok := readsRep(t, "so many pieces", laidRep(p)); ok != (n <= 2) {
			t.Errorf("11.1: ReadRep of %d pieces: %v", n, ok)
		}
		p = node.Rep{Intents: slices.Repeat([]api.Intent{some(1, 2)}, n)}
		if ok := readsRep(t, "so many intents", laidRep(p)); ok != (n <= 16) {
			t.Errorf("11.1: ReadRep of %d intents: %v", n, ok)
		}
	}
}

// TestRepTurned: each byte turned to each other value.
func TestRepTurned(t *testing.T) {
	for _, p := range []node.Rep{{}, {Boot: maxBoot, Pieces: pieces(1)}, {Code: 6, Boot: 1, Pieces: pieces(2), Intents: intents(2)}} {
		b := laidRep(p)
		if !readsRep(t, "the whole", b) {
			t.Fatalf("11.1: ReadRep of %x: none", b)
		}
		for k := range b {
			for by := 1; by < 256; by++ {
				turned := bytes.Clone(b)
				turned[k] ^= byte(by)
				readsRep(t, "a byte turned", turned)
			}
		}
	}
}

// TestRepNumbers: bytes with a number, a piece or an intent that may not be laid.
func TestRepNumbers(t *testing.T) {
	for _, boot := range []int{1 << 31, 1<<31 + 1, 1<<32 - 1} {
		noRep(t, "a boot that may not be", laidRep(node.Rep{Boot: boot}))
	}
	for bit := range 32 {
		if ok := readsRep(t, "a boot of one bit", laidRep(node.Rep{Boot: 1 << bit})); ok != (bit < 31) {
			t.Errorf("11.1: ReadRep of boot 1<<%d: %v", bit, ok)
		}
	}
	read := func(l []node.Rep, may bool) {
		t.Helper()
		for _, p := range l {
			if ok := readsRep(t, "one thing by itself", laidRep(p)); ok != may {
				t.Errorf("11.1: ReadRep of %+v: %v", p, ok)
			}
		}
	}
	for n := range 256 {
		ofPiece, ofIntent := eachRep(piece(n, 1, 0), some(n, 1))
		read(ofPiece, n < 40)
		read(ofIntent, n < 40)
		ofPiece, _ = eachRep(piece(0, 1, n), api.Intent{})
		read(ofPiece, n < 6)
	}
	for _, n := range []int{0, 1, 2, maxGen - 1, maxGen, maxGen + 1, 2 * maxGen, 255 * maxGen, 1<<48 - 1} {
		ofPiece, ofIntent := eachRep(piece(5, n, 1), some(5, n))
		read(ofPiece, n >= 1 && n <= maxGen)
		read(ofIntent, n >= 1 && n <= maxGen)
	}
}

// TestRepAny: bytes in disorder, and such as are near to a reply.
func TestRepAny(t *testing.T) {
	read := 0
	for n := range 40000 {
		readsRep(t, "any bytes", data(n%400, n))
		x := data(64, n)
		p := node.Rep{Code: api.Errno(x[0]), Boot: whole(x[1:5]) >> (x[5] % 2)}
		for k := range int(x[6]) % 4 {
			p.Pieces = append(p.Pieces, piece(int(x[7+k])%44, whole(x[10+6*k:16+6*k])>>(7+x[33+k]%3), int(x[36+k])%7))
		}
		for k := range int(x[39]) % 3 {
			p.Intents = append(p.Intents, some(int(x[40+k])%44, whole(x[43+6*k:49+6*k])>>(7+x[62]%3)))
		}
		if readsRep(t, "near to one", laidRep(p)) {
			read++
		}
		readsRep(t, "near to one, with counts", repBytes(p, len(p.Pieces)+int(x[63]%2), len(p.Intents)))
	}
	if read < 1000 {
		t.Errorf("only %d were replies", read)
	}
	for n := range 400 {
		for _, fill := range []byte{0, 1, 2, 16, 0x7f, 0x80, 0xff} {
			readsRep(t, "the same byte", bytes.Repeat([]byte{fill}, n))
		}
	}
}

// differing are replies of which each parts from the first one in one thing alone.
func differing() []node.Rep {
	base := func() node.Rep {
		return node.Rep{Code: 3, Boot: 4, Pieces: []api.Piece{piece(1, 2, 3), piece(1, 1, 3)}, Intents: []api.Intent{some(5, 6), some(5, 7), some(6, 6)}}
	}
	l := []node.Rep{base()}
	turn := func(by func(p *node.Rep)) {
		p := base()
		by(&p)
		l = append(l, p)
	}
	turn(func(p *node.Rep) { p.Code++ })
	turn(func(p *node.Rep) { p.Boot++ })
	for k := range 2 {
		turn(func(p *node.Rep) { p.Pieces[k].Stripe++ })
		turn(func(p *node.Rep) { p.Pieces[k].Gen += 8 })
		turn(func(p *node.Rep) { p.Pieces[k].Index++ })
		turn(func(p *node.Rep) { p.Pieces[k].Data = p.Pieces[k].Data[:31] })
		for at := range 32 {
			turn(func(p *node.Rep) { p.Pieces[k].Data[at]++ })
		}
		turn(func(p *node.Rep) { p.Pieces = slices.Delete(p.Pieces, k, k+1) })
	}
	for k := range 3 {
		turn(func(p *node.Rep) { p.Intents[k].Stripe++ })
		turn(func(p *node.Rep) { p.Intents[k].Gen += 8 })
		turn(func(p *node.Rep) { p.Intents[k].Data = p.Intents[k].Data[:127] })
		for at := range 128 {
			turn(func(p *node.Rep) { p.Intents[k].Data[at]++ })
		}
		turn(func(p *node.Rep) { p.Intents = slices.Delete(p.Intents, k, k+1) })
	}
	turn(func(p *node.Rep) { p.Pieces = append(p.Pieces, p.Pieces[1]) })
	turn(func(p *node.Rep) { p.Intents = append(p.Intents, p.Intents[2]) })
	turn(func(p *node.Rep) { p.Pieces = nil })
	turn(func(p *node.Rep) { p.Intents = nil })
	turn(func(p *node.Rep) { slices.Reverse(p.Pieces) })
	turn(func(p *node.Rep) { slices.Reverse(p.Intents) })
	turn(func(p *node.Rep) { p.Intents[0], p.Intents[1] = p.Intents[1], p.Intents[0] })
	return l
}

// TestSameRep: each with each other; just those that are one are the same.
func TestSameRep(t *testing.T) {
	a, b := differing(), differing()
	for j := range a {
		for k := range b {
			if got := call.SameRep(a[j], b[k]); got != (j == k) {
				t.Fatalf("11.1: SameRep of %d and %d, %+v and %+v: %v", j, k, a[j], b[k], got)
			}
		}
	}
	for j, p := range someReps() {
		for k, q := range someReps() {
			if got := call.SameRep(p, q); got != (j == k) {
				t.Errorf("11.1: SameRep of %+v and %+v: %v", p, q, got)
			}
		}
	}
	if !call.SameRep(node.Rep{}, node.Rep{Pieces: []api.Piece{}, Intents: []api.Intent{}}) {
		t.Errorf("R2: SameRep: nil and an empty list are not the same")
	}
	if !call.SameRep(node.Rep{Pieces: []api.Piece{{}}, Intents: []api.Intent{{}}}, node.Rep{Pieces: []api.Piece{{Data: []byte{}}}, Intents: []api.Intent{{Data: []byte{}}}}) {
		t.Errorf("R2: SameRep: no Data and empty Data are not the same")
	}
	// What may not be laid may be asked for all the same.
	if wrong := (node.Rep{Code: -1, Boot: -1, Pieces: pieces(3), Intents: intents(17)}); !call.SameRep(wrong, wrong) || call.SameRep(wrong, node.Rep{}) {
		t.Errorf("11.1: SameRep of what may not be laid")
	}
}

// spared is a list with spare room, in which each byte is 0xa5.
func spared(b []byte) []byte {
	l := slices.Concat(b, bytes.Repeat([]byte{0xa5}, 64))
	return l[:len(b)]
}

// kept checks that a list that spared made holds those bytes still, and its spare room what it held.
func kept(t *testing.T, what string, l, b []byte) {
	t.Helper()
	if !bytes.Equal(l, b) || !bytes.Equal(l[len(b):cap(l)][:64], bytes.Repeat([]byte{0xa5}, 64)) {
		t.Errorf("R2: %s: %x, and in its spare room %x", what, l, l[len(b):cap(l)])
	}
}

// scrub turns each byte of a list, those in its spare room too.
func scrub(b []byte) {
	b = b[:cap(b)]
	for k := range b {
		b[k] ^= 0xff
	}
}

// listsOf are all lists of bytes in a reply.
func listsOf(p node.Rep) [][]byte {
	var l [][]byte
	for _, x := range p.Pieces {
		l = append(l, x.Data)
	}
	for _, x := range p.Intents {
		l = append(l, x.Data)
	}
	return l
}

// TestReqApart: what is given is as it was, and shares no memory with what is answered.
func TestReqApart(t *testing.T) {
	for _, size := range []int{0, 1, 32, 128, 129} {
		q := req(2, 3, 4, 5, size)
		given := q
		given.Data = spared(q.Data)
		b, _ := call.LayReq(given)
		kept(t, "the Data of LayReq", given.Data, q.Data)
		scrub(b)
		kept(t, "the Data of LayReq, its answer turned", given.Data, q.Data)
		b, _ = call.LayReq(given)
		scrub(given.Data)
		if size <= 128 && !bytes.Equal(b, laidReq(q)) {
			t.Errorf("R2: what LayReq answered was turned with its Data: %x", b)
		}
		laid := spared(laidReq(q))
		got, _ := call.ReadReq(laid)
		kept(t, "the bytes of ReadReq", laid, laidReq(q))
		scrub(got.Data)
		kept(t, "the bytes of ReadReq, its answer turned", laid, laidReq(q))
		got, e := call.ReadReq(laid)
		scrub(laid)
		if e == api.OK && !sameReq(got, q) {
			t.Errorf("R2: what ReadReq answered was turned with its bytes: %+v", got)
		}
	}
}

// sparedRep is a reply whose lists have spare room, in which each byte is 0xa5, each piece and each intent one that may not be.
func sparedRep(p node.Rep) node.Rep {
	p.Pieces, p.Intents = append(slices.Clone(p.Pieces), api.Piece{Stripe: -5}), append(slices.Clone(p.Intents), api.Intent{Stripe: -5})
	for k := range p.Pieces {
		p.Pieces[k].Data = spared(p.Pieces[k].Data)
	}
	for k := range p.Intents {
		p.Intents[k].Data = spared(p.Intents[k].Data)
	}
	p.Pieces, p.Intents = p.Pieces[:len(p.Pieces)-1], p.Intents[:len(p.Intents)-1]
	return p
}

// keptRep checks that a reply that sparedRep made is that one still, its spare room too.
func keptRep(t *testing.T, what string, got, p node.Rep) {
	t.Helper()
	if !sameRep(got, p) || got.Pieces[:len(p.Pieces)+1][len(p.Pieces)].Stripe != -5 || got.Intents[:len(p.Intents)+1][len(p.Intents)].Stripe != -5 {
		t.Errorf("R2: %s: %+v, not %+v", what, got, p)
	}
	for k, b := range listsOf(p) {
		kept(t, what, listsOf(got)[k], b)
	}
}

// TestLayRepApart: what is given is as it was, and shares no memory with what is answered.
func TestLayRepApart(t *testing.T) {
	for _, p := range append(someReps(), node.Rep{Pieces: pieces(3)}, node.Rep{Intents: intents(17)}, node.Rep{Code: -1, Pieces: pieces(1)}) {
		given := sparedRep(p)
		b, _ := call.LayRep(given)
		keptRep(t, "what was given to LayRep", given, p)
		scrub(b)
		keptRep(t, "what was given to LayRep, its answer turned", given, p)
		b, e := call.LayRep(given)
		for _, l := range listsOf(given) {
			scrub(l)
		}
		if e == api.OK && !bytes.Equal(b, laidRep(p)) {
			t.Errorf("R2: what LayRep answered was turned with what was given: %x", b)
		}
	}
}

// TestReadRepApart: what is given is as it was, and shares no memory with what is answered, of which no two lists share any.
func TestReadRepApart(t *testing.T) {
	for _, p := range someReps() {
		laid := spared(laidRep(p))
		got, _ := call.ReadRep(laid)
		kept(t, "the bytes of ReadRep", laid, laidRep(p))
		for k, l := range listsOf(got) {
			scrub(l)
			kept(t, "the bytes of ReadRep, its answer turned", laid, laidRep(p))
			for j, other := range listsOf(got) {
				if (j > k) != bytes.Equal(other, listsOf(p)[j]) {
					t.Errorf("R2: list %d of what ReadRep answered, with list %d turned: %x", j, k, other)
				}
			}
		}
		got, _ = call.ReadRep(laid)
		scrub(laid)
		if !sameRep(got, p) {
			t.Errorf("R2: what ReadRep answered was turned with its bytes: %+v", got)
		}
	}
}

// TestSameRepApart: what is given is as it was.
func TestSameRepApart(t *testing.T) {
	for _, p := range someReps() {
		for _, q := range someReps() {
			a, b := sparedRep(p), sparedRep(q)
			call.SameRep(a, b)
			keptRep(t, "the first of SameRep", a, p)
			keptRep(t, "the second of SameRep", b, q)
		}
	}
}

// TestAgain: the same is answered again, whatever was asked before.
func TestAgain(t *testing.T) {
	for n := range 3 {
		for k, p := range someReps() {
			laysReq(t, req(k%6+1, k, n, k, k))
			refusesReq(t, "between others", req(0, k, n, k, k))
			laysRep(t, p)
			refusesRep(t, "between others", node.Rep{Boot: -1 - k, Pieces: p.Pieces, Intents: p.Intents})
			noReq(t, "between others", laidRep(p)[:n])
			noRep(t, "between others", laidRep(p)[:n])
		}
	}
}

// TestNode: what is asked of a node by bytes, and what it answers by bytes, is as if it were asked without any.
func TestNode(t *testing.T) {
	near, far := node.New(), node.New()
	ask := func(q node.Req) {
		t.Helper()
		b, e := call.LayReq(q)
		if e != api.OK {
			t.Fatalf("11.1: LayReq(%+v): %d", q, e)
		}
		told, e := call.ReadReq(b)
		if e != api.OK {
			t.Fatalf("11.1: ReadReq(%x): %d", b, e)
		}
		b, e = call.LayRep(far.Do(told))
		if e != api.OK {
			t.Fatalf("11.1: LayRep of what is answered to %+v: %d", q, e)
		}
		got, e := call.ReadRep(b)
		if want := near.Do(q); e != api.OK || !call.SameRep(got, want) {
			t.Fatalf("11.1: %+v is answered %+v %d, not %+v", q, got, e, want)
		}
	}
	for n := range 18 {
		ask(req(node.Log, n, n+1, 0, 128))
		ask(req(node.Put, n, n+1, n%6, 32))
		ask(req(node.Put, n, n+2, n%6, 32))
		ask(req(node.Get, n, 0, 0, 0))
		ask(req(node.Intents, 0, 0, 0, 0))
	}
	for _, q := range []node.Req{req(node.Get, 40, 0, 0, 0), req(node.Get, 65535, 0, 0, 0), req(node.Put, 1, 0, 1, 32), req(node.Put, 1, 1, 6, 32), req(node.Log, 1, 1, 0, 127), req(node.Release, 3, 4, 0, 0), req(node.Flush, 0, 0, 0, 0)} {
		ask(q)
		ask(req(node.Intents, 0, 0, 0, 0))
	}
	near.Crash(nil)
	far.Crash(nil)
	for n := range 18 {
		ask(req(node.Get, n, 0, 0, 0))
		ask(req(node.Intents, 0, 0, 0, 0))
	}
}
