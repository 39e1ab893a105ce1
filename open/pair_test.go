package open_test

import (
	"bytes"
	"slices"
	"strconv"
	"testing"

	"corbel/api"
	"corbel/engine"
	"corbel/node"
	"corbel/open"
	"corbel/pick"
	"corbel/wire"
)

// pair is an engine (none behind an Open that failed) and its plain one, who are told the same.
type pair struct {
	e *engine.Engine
	w *wire.Wire
	m *plain
}

func fresh(t *testing.T) *pair {
	t.Helper()
	w := wire.New()
	e, err := engine.Blank(w)
	if err != nil || e == nil {
		t.Fatalf("14.1: Blank: %v", err)
	}
	return &pair{e, w, newPlain()}
}

// tells holds an error against its text.
func tells(t *testing.T, what string, err error, want string) {
	t.Helper()
	got := ""
	if err != nil {
		got = err.Error()
	}
	if got != want {
		t.Errorf("%s: %q, want %q", what, got, want)
	}
}

// open opens both, and tells the text of the error, as it must be.
func (a *pair) open(t *testing.T, what string) string {
	t.Helper()
	want := a.m.open()
	e, err := open.Open(a.w)
	tells(t, what+": Open", err, want)
	if (e == nil) != (err != nil) {
		t.Fatalf("%s: Open: engine %v beside %v", what, e != nil, err)
	}
	a.e = e
	if want == "" {
		a.right(t, what)
	}
	return want
}

// opens opens where nothing fails.
func (a *pair) opens(t *testing.T, what string) {
	t.Helper()
	if not := a.open(t, what); not != "" {
		t.Fatalf("%s: Open: %s", what, not)
	}
	if a.e.Wire() != a.w {
		t.Errorf("%s: Open: over another wire", what)
	}
	a.holds(t, what)
}

// right: none pends or is in doubt, and each stripe's six pieces are on their nodes, flushed.
func (a *pair) right(t *testing.T, what string) {
	t.Helper()
	if len(a.e.Pending()) != 0 || len(a.e.Doubt()) != 0 {
		t.Errorf("%s: Pending %v, Doubt %v; want none", what, a.e.Pending(), a.e.Doubt())
	}
	for stripe := range 40 {
		gen := a.e.Gen(stripe)
		for k := range 6 {
			if gen > 0 && !a.stands(stripe, gen, k) {
				t.Errorf("%s: stripe %d, gen %d, chunk %d is not right", what, stripe, gen, k)
			}
		}
	}
}

// stands: is that piece on its node, flushed?
func (a *pair) stands(stripe, gen, index int) bool {
	n := a.w.Node(at(stripe, index))
	if slices.Contains(n.Platter().Pending(), 2*stripe+gen%2) {
		return false
	}
	return slices.ContainsFunc(n.Do(get(stripe)).Pieces, func(p api.Piece) bool { return p.Gen == gen && p.Index == index })
}

// write writes to both, and tells the text of the error, as it must be.
func (a *pair) write(t *testing.T, what string, stripe int, b []byte) string {
	t.Helper()
	want := a.m.write(stripe, b)
	tells(t, what+": Write", a.e.Write(stripe, b), want)
	return want
}

// fine writes where nothing fails.
func (a *pair) fine(t *testing.T, what string, stripe int, b []byte) {
	t.Helper()
	if not := a.write(t, what, stripe, b); not != "" {
		t.Errorf("%s: Write of %d: %s", what, stripe, not)
	}
}

// doubtful writes a stripe that six nodes do not hear of: 6 and 7 have its intent.
func (a *pair) doubtful(t *testing.T, what string, stripe int, b []byte) {
	t.Helper()
	a.down(true, 0, 1, 2, 3, 4, 5)
	if not := a.write(t, what, stripe, b); not == "" {
		t.Errorf("%s: Write of %d went well", what, stripe)
	}
	a.down(false, 0, 1, 2, 3, 4, 5)
}

// read reads of both, and tells the bytes, and the text of the error, as they must be.
func (a *pair) read(t *testing.T, what string, stripe int) ([]byte, string) {
	t.Helper()
	want, not := a.m.read(stripe)
	got, err := a.e.Read(stripe)
	tells(t, what+": Read", err, not)
	if !bytes.Equal(got, want) {
		t.Errorf("%s: Read of %d: %x, want %x", what, stripe, got, want)
	}
	return want, not
}

// reads reads where nothing fails, and holds it against what stands written here.
func (a *pair) reads(t *testing.T, what string, stripe int, want []byte) {
	t.Helper()
	if got, not := a.read(t, what, stripe); not != "" || !bytes.Equal(got, want) {
		t.Errorf("%s: Read of %d: %s, %x, want %x", what, stripe, not, got, want)
	}
}

// missing asks both, and tells what is missing, as it must be.
func (a *pair) missing(t *testing.T, what string) []pick.Item {
	t.Helper()
	want := a.m.missing()
	got, err := open.Missing(a.e)
	if err != nil || !slices.Equal(got, want) {
		t.Errorf("%s: Missing: %v, %v; want %v", what, got, err, want)
	}
	return want
}

// heal heals both, and tells how many, and the text of the error, as they must be.
func (a *pair) heal(t *testing.T, what string, most int) (int, string) {
	t.Helper()
	want, not := a.m.heal(most)
	got, err := open.Heal(a.e, most)
	tells(t, what+": Heal", err, not)
	if got != want {
		t.Errorf("%s: Heal: %d, want %d", what, got, want)
	}
	return want, not
}

// does asks a node of both, past the wire.
func (a *pair) does(t *testing.T, n int, q node.Req) {
	t.Helper()
	p, r := a.w.Node(n).Do(q), a.m.nodes[n].Do(q)
	if p.Code != r.Code {
		t.Fatalf("node %d: %v, want %v", n, p.Code, r.Code)
	}
}

// puts: those chunks of a stripe's generation are on their nodes, flushed.
func (a *pair) puts(t *testing.T, stripe, gen int, b []byte, indexes ...int) {
	t.Helper()
	for _, k := range indexes {
		a.does(t, at(stripe, k), put(stripe, gen, k, b))
		a.does(t, at(stripe, k), flush())
	}
}

// intends: those nodes have the intent, flushed.
func (a *pair) intends(t *testing.T, stripe, gen int, b []byte, nodes ...int) {
	t.Helper()
	for _, n := range nodes {
		a.does(t, n, log(stripe, gen, b))
		a.does(t, n, flush())
	}
}

func (a *pair) fates(l ...int) {
	a.w.Fates(l)
	a.m.fates = append(a.m.fates, l...)
}

func (a *pair) down(is bool, nodes ...int) {
	for _, n := range nodes {
		a.w.Down(n, is)
		a.m.down[n] = is
	}
}

func (a *pair) lose(nodes ...int) {
	for _, n := range nodes {
		a.w.Node(n).Lose()
		a.m.nodes[n].Lose()
	}
}

func (a *pair) crash(n int, keep ...int) {
	a.w.Node(n).Crash(keep)
	a.m.nodes[n].Crash(keep)
}

func (a *pair) fuse(n int) {
	a.w.Fuse(n)
	a.m.end = n
}

func (a *pair) revive() {
	a.w.Revive()
	a.m.dead, a.m.end = false, -1
}

// alike holds a node against another one: its boot, its blocks, what is pending on them, its intents.
func alike(t *testing.T, what string, n int, got, want *node.Node) {
	t.Helper()
	if got.Boot() != want.Boot() {
		t.Errorf("%s: node %d: boot %d, want %d", what, n, got.Boot(), want.Boot())
	}
	if !slices.Equal(got.Platter().Pending(), want.Platter().Pending()) {
		t.Errorf("%s: node %d: pending %v, want %v", what, n, got.Platter().Pending(), want.Platter().Pending())
	}
	for k := range api.Blocks {
		a, _ := got.Platter().Read(k)
		b, _ := want.Platter().Read(k)
		if !bytes.Equal(a, b) {
			t.Errorf("%s: node %d: block %d: %x, want %x", what, n, k, a, b)
		}
	}
	same := func(a, b api.Intent) bool {
		return a.Stripe == b.Stripe && a.Gen == b.Gen && bytes.Equal(a.Data, b.Data)
	}
	if !slices.EqualFunc(got.Ring().Live(), want.Ring().Live(), same) {
		t.Errorf("%s: node %d: intents %v, want %v", what, n, got.Ring().Live(), want.Ring().Live())
	}
}

// stand holds the nodes against the plain ones.
func (a *pair) stand(t *testing.T, what string) {
	t.Helper()
	for n := range 8 {
		alike(t, what, n, a.w.Node(n), a.m.nodes[n])
	}
}

// holds holds all that there is against the plain one: no engine knows anything.
func (a *pair) holds(t *testing.T, what string) {
	t.Helper()
	for k := range 40 {
		if a.e != nil && a.e.Gen(k) != a.m.gen[k] {
			t.Errorf("%s: Gen of %d: %d, want %d", what, k, a.e.Gen(k), a.m.gen[k])
		}
	}
	if a.e != nil && (!slices.Equal(a.e.Pending(), those(a.m.pends)) || !slices.Equal(a.e.Doubt(), those(a.m.doubt))) {
		t.Errorf("%s: Pending %v, Doubt %v; want %v, %v", what, a.e.Pending(), a.e.Doubt(), those(a.m.pends), those(a.m.doubt))
	}
	if a.w.Sent() != a.m.sent || a.w.Left() != len(a.m.fates) || a.w.Dead() != a.m.dead {
		t.Errorf("%s: sent %d, left %d, dead %v; want %d, %d, %v", what, a.w.Sent(), a.w.Left(), a.w.Dead(), a.m.sent, len(a.m.fates), a.m.dead)
	}
	a.stand(t, what)
}

// is holds what is told of a stripe against what stands written here.
func (a *pair) is(t *testing.T, what string, stripe, gen int, pending, doubt bool) {
	t.Helper()
	if a.e.Gen(stripe) != gen || slices.Contains(a.e.Pending(), stripe) != pending || slices.Contains(a.e.Doubt(), stripe) != doubt {
		t.Errorf("%s: stripe %d: gen %d, pending %v, doubt %v; want %d, %v, %v", what, stripe, a.e.Gen(stripe), a.e.Pending(), a.e.Doubt(), gen, pending, doubt)
	}
}

// next writes a stripe, and holds the generation that was used against what stands written here.
func (a *pair) next(t *testing.T, what string, stripe, gen int) {
	t.Helper()
	a.fine(t, what+": the next one", stripe, some(4711))
	a.is(t, what+": the next one", stripe, gen, false, false)
	a.reads(t, what+": the next one", stripe, some(4711))
}

// have holds who has how many intents against what stands written here: one number for each node.
func (a *pair) have(t *testing.T, what string, want ...int) {
	t.Helper()
	var got []int
	for n := range 8 {
		got = append(got, len(a.w.Node(n).Ring().Live()))
	}
	if !slices.Equal(got, want) {
		t.Errorf("%s: nodes have %v intents, want %v", what, got, want)
	}
}

// times is a fate so often.
func times(n, fate int) []int { return slices.Repeat([]int{fate}, n) }

// name tells a place in a run.
func name(what string, l ...int) string {
	for _, n := range l {
		what += " " + strconv.Itoa(n)
	}
	return what
}

// each are the sets of so many of six, as indexes.
func each(size int) [][]int {
	var out [][]int
	for set := range 1 << 6 {
		var l []int
		for k := range 6 {
			if set>>k&1 == 1 {
				l = append(l, k)
			}
		}
		if len(l) == size {
			out = append(out, l)
		}
	}
	return out
}

// without are the indexes that are not in a set.
func without(set []int) []int {
	var l []int
	for k := range 6 {
		if !slices.Contains(set, k) {
			l = append(l, k)
		}
	}
	return l
}

// dice are numbers in a disorder that is the same each time.
type dice struct{ x uint32 }

func (d *dice) roll(n int) int {
	d.x = d.x*1664525 + 1013904223
	return int(d.x>>8) % n
}

// stripe is one of a few more often than one of all.
func (d *dice) stripe() int {
	if d.roll(3) > 0 {
		return d.roll(4) * 13
	}
	return d.roll(40)
}
