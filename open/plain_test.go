package open_test

import (
	"bytes"
	"cmp"
	"slices"
	"strconv"
	"strings"

	"corbel/api"
	"corbel/coder"
	"corbel/node"
	"corbel/pick"
	"corbel/wire"
)

// some is a stripe's bytes, in a disorder that is the same each time.
func some(seed int) []byte {
	b, x := make([]byte, 128), uint32(seed)*2654435761+1
	for k := range b {
		x = x*1664525 + 1013904223
		b[k] = byte(x >> 24)
	}
	return b
}

// logs are the nodes that a stripe's intents are asked of, in their order.
func logs(stripe int) []int {
	var l []int
	for k := range 8 {
		l = append(l, (stripe+5+k)%8)
	}
	return l
}

// at is the node of a stripe's chunk.
func at(stripe, index int) int { return (stripe + index) % 8 }

// asked is a request, and who is asked.
type asked struct {
	n int
	q node.Req
}

func get(stripe int) node.Req { return node.Req{Kind: node.Get, Stripe: stripe} }

func log(stripe, gen int, b []byte) node.Req {
	return node.Req{Kind: node.Log, Stripe: stripe, Gen: gen, Data: b}
}

func put(stripe, gen, index int, b []byte) node.Req {
	chunks, _ := coder.New().Encode(b)
	return node.Req{Kind: node.Put, Stripe: stripe, Gen: gen, Index: index, Data: chunks[index]}
}

func flush() node.Req { return node.Req{Kind: node.Flush} }

func intents() node.Req { return node.Req{Kind: node.Intents} }

func release(stripe, gen int) node.Req {
	return node.Req{Kind: node.Release, Stripe: stripe, Gen: gen}
}

// blame is the text of one node's error.
func blame(n int, code api.Errno) string {
	return "node " + strconv.Itoa(n) + ": errno " + strconv.Itoa(int(code))
}

// text is that of a stripe's error, of each part in its order.
func text(stripe int, parts ...string) string {
	return "stripe " + strconv.Itoa(stripe) + ": " + strings.Join(parts, "; ")
}

// plain does by the words of chapters 14 and 15 what Open, Missing, Heal and an engine must do, past any wire: its nodes, those that are down, the fates that wait, how many are sent when the wire is dead (below 0: no fuse), how many were; and of each stripe its generation, the next one, whether it is in doubt, whether it pends, and, if it does, its bytes.
type plain struct {
	nodes []*node.Node
	down  [8]bool
	fates []int
	end   int
	dead  bool
	sent  int
	gen   [40]int
	next  [40]int
	doubt [40]bool
	pends [40]bool
	is    [40][]byte
}

func newPlain() *plain {
	m := &plain{end: -1}
	for range 8 {
		m.nodes = append(m.nodes, node.New())
	}
	m.forget()
	return m
}

// forget: it is as over nodes that have nothing.
func (m *plain) forget() {
	for k := range 40 {
		m.gen[k], m.next[k], m.doubt[k], m.pends[k], m.is[k] = 0, 1, false, false, make([]byte, 128)
	}
}

// call is what a wire does: three tries, each with its fate.
func (m *plain) call(n int, q node.Req) (node.Rep, api.Errno) {
	for range 3 {
		if m.end == 0 && !m.down[n] {
			m.dead = true
		}
		if m.dead || m.down[n] {
			return node.Rep{}, api.ErrDown
		}
		m.end, m.sent = m.end-1, m.sent+1
		fate := wire.Fine
		if len(m.fates) > 0 {
			fate, m.fates = m.fates[0], m.fates[1:]
		}
		if fate == wire.NoReq {
			continue
		}
		if fate == wire.Power {
			m.nodes[n].Crash(nil)
		}
		if p := m.nodes[n].Do(q); fate != wire.NoRep {
			return p, p.Code
		}
	}
	return node.Rep{}, api.ErrLost
}

// have is a call, and a flush of the same boot.
func (m *plain) have(n int, q node.Req) api.Errno {
	p, code := m.call(n, q)
	if code != api.OK {
		return code
	}
	f, code := m.call(n, flush())
	if code != api.OK || f.Boot != p.Boot {
		return api.ErrLost
	}
	return api.OK
}

// sweep releases what is not above its stripe's generation, but what pends.
func (m *plain) sweep(n int) {
	p, code := m.call(n, intents())
	if code != api.OK {
		return
	}
	for _, i := range p.Intents {
		if i.Gen > m.gen[i.Stripe] || m.pends[i.Stripe] && i.Gen == m.gen[i.Stripe] {
			continue
		}
		m.call(n, release(i.Stripe, i.Gen))
	}
}

// carry is the text of the error, none where there is none.
func (m *plain) carry(stripe, gen int, b []byte) string {
	done := 0
	var not []string
	for _, n := range logs(stripe) {
		if done == 3 {
			break
		}
		code := m.have(n, log(stripe, gen, b))
		if code == api.ErrFull {
			m.sweep(n)
			code = m.have(n, log(stripe, gen, b))
		}
		if code == api.OK {
			done++
		} else {
			not = append(not, blame(n, code))
		}
	}
	if done < 3 {
		return text(stripe, not...)
	}
	m.gen[stripe], m.doubt[stripe], m.pends[stripe], m.is[stripe] = gen, false, true, bytes.Clone(b)
	m.chunks(stripe)
	return ""
}

// chunks puts all six, and releases the intents if all did.
func (m *plain) chunks(stripe int) {
	done := 0
	for k := range 6 {
		if m.have(at(stripe, k), put(stripe, m.gen[stripe], k, m.is[stripe])) == api.OK {
			done++
		}
	}
	if done < 6 {
		return
	}
	m.pends[stripe] = false
	for n := range 8 {
		m.call(n, release(stripe, m.gen[stripe]))
	}
}

// write is the text of what Write must answer, none where it is nil.
func (m *plain) write(stripe int, b []byte) string {
	gen := m.next[stripe]
	m.next[stripe]++
	not := m.carry(stripe, gen, b)
	if not != "" {
		m.doubt[stripe] = true
	}
	return not
}

// piece is the stripe's piece of that index, or why it is not told.
func (m *plain) piece(stripe, index int) ([]byte, api.Errno) {
	p, code := m.call(at(stripe, index), get(stripe))
	if code != api.OK {
		return nil, code
	}
	for _, x := range p.Pieces {
		if x.Gen == m.gen[stripe] && x.Index == index {
			return x.Data, api.OK
		}
	}
	return nil, api.ErrNone
}

// fetch is the stripe's bytes, or the text of the error where fewer than four pieces are there.
func (m *plain) fetch(stripe int) ([]byte, string) {
	if m.pends[stripe] {
		return m.is[stripe], ""
	}
	if m.gen[stripe] == 0 {
		return make([]byte, 128), ""
	}
	var not []string
	chunks := make([][]byte, 6)
	for k := range 6 {
		b, code := m.piece(stripe, k)
		if code != api.OK {
			not = append(not, blame(at(stripe, k), code))
		}
		chunks[k] = b
		if k+1-len(not) == 4 {
			b, _ := coder.New().Decode(chunks)
			return b, ""
		}
	}
	return nil, text(stripe, not...)
}

// read is what Read must answer, and the text of its error.
func (m *plain) read(stripe int) ([]byte, string) {
	b, not := m.fetch(stripe)
	if not != "" {
		return nil, not
	}
	if m.doubt[stripe] {
		if not := m.write(stripe, b); not != "" {
			return nil, not
		}
	}
	return b, ""
}

// heard is what the nodes told: the intents of each, and of each stripe the pieces by gen and index.
type heard struct {
	intents [8][]api.Intent
	pieces  [40]map[int]map[int][]byte
}

// listen asks all nodes, and tells the text of the first error.
func (m *plain) listen() (*heard, string) {
	h := &heard{}
	for n := range 8 {
		p, code := m.call(n, intents())
		if code != api.OK {
			return nil, blame(n, code)
		}
		h.intents[n] = p.Intents
	}
	for stripe := range 40 {
		h.pieces[stripe] = map[int]map[int][]byte{}
		for k := range 6 {
			p, code := m.call(at(stripe, k), get(stripe))
			if code != api.OK {
				return nil, blame(at(stripe, k), code)
			}
			for _, x := range p.Pieces {
				if x.Index != k {
					continue
				}
				if h.pieces[stripe][x.Gen] == nil {
					h.pieces[stripe][x.Gen] = map[int][]byte{}
				}
				h.pieces[stripe][x.Gen][k] = x.Data
			}
		}
	}
	return h, ""
}

// of are the intents of a stripe, node by node, and which nodes they are.
func (h *heard) of(stripe int) (l []api.Intent, nodes []int) {
	for n, told := range h.intents {
		for _, i := range told {
			if i.Stripe == stripe {
				l, nodes = append(l, i), append(nodes, n)
			}
		}
	}
	return l, nodes
}

// learn takes from what was heard what is known of a stripe.
func (m *plain) learn(h *heard, stripe int) {
	l, _ := h.of(stripe)
	var gens []int
	for _, i := range l {
		gens = append(gens, i.Gen)
	}
	for gen := range h.pieces[stripe] {
		gens = append(gens, gen)
	}
	slices.SortFunc(gens, func(a, b int) int { return cmp.Compare(b, a) })
	if len(gens) > 0 {
		m.next[stripe] = gens[0] + 1
	}
	for _, gen := range gens {
		k := slices.IndexFunc(l, func(i api.Intent) bool { return i.Gen == gen })
		p := h.pieces[stripe][gen]
		switch {
		case k >= 0:
			m.gen[stripe], m.pends[stripe], m.is[stripe] = gen, true, l[k].Data
			return
		case len(p) >= 4:
			m.gen[stripe] = gen
			m.is[stripe], _ = coder.New().Decode([][]byte{p[0], p[1], p[2], p[3], p[4], p[5]})
			return
		}
	}
}

// open is the text of Open's error, none where there is an engine.
func (m *plain) open() string {
	m.forget()
	h, not := m.listen()
	if not != "" {
		return not
	}
	for stripe := range 40 {
		m.learn(h, stripe)
	}
	for stripe := range 40 {
		l, nodes := h.of(stripe)
		if m.gen[stripe] == 0 || len(l) == 0 && len(h.pieces[stripe][m.gen[stripe]]) == 6 {
			continue
		}
		if not := m.carry(stripe, m.gen[stripe], m.is[stripe]); not != "" {
			return not
		}
		if m.pends[stripe] {
			return text(stripe, "errno 8")
		}
		for k, i := range l {
			m.call(nodes[k], release(stripe, i.Gen))
		}
	}
	return ""
}

// missing is what Missing must answer.
func (m *plain) missing() []pick.Item {
	var l []pick.Item
	for stripe := range 40 {
		lack := 0
		for k := range 6 {
			if m.gen[stripe] == 0 {
				break
			}
			if _, code := m.piece(stripe, k); code != api.OK {
				lack++
			}
		}
		if lack > 0 || m.pends[stripe] || m.doubt[stripe] {
			l = append(l, pick.Item{ID: stripe, Key: -lack})
		}
	}
	slices.SortStableFunc(l, func(a, b pick.Item) int { return cmp.Compare(a.Key, b.Key) })
	return l
}

// heal is how many Heal must tell, and the text of its error.
func (m *plain) heal(most int) (int, string) {
	right := 0
	var not []string
	for k, i := range m.missing() {
		if k >= most {
			break
		}
		b, err := m.read(i.ID)
		if err == "" {
			if m.pends[i.ID] {
				m.chunks(i.ID)
			} else {
				err = m.write(i.ID, b)
			}
		}
		if err != "" {
			not = append(not, err)
		} else if !m.pends[i.ID] && !m.doubt[i.ID] {
			right++
		}
	}
	return right, strings.Join(not, "; ")
}

// those are the stripes of which it is so.
func those(l [40]bool) []int {
	var out []int
	for k, is := range l {
		if is {
			out = append(out, k)
		}
	}
	return out
}
