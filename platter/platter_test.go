package platter_test

import (
	"bytes"
	"math"
	"slices"
	"testing"

	"corbel/platter"
)

// size is a block's bytes.
const size = 160

// block is a block of n alone.
func block(n int) []byte { return bytes.Repeat([]byte{byte(n)}, size) }

// mixed is a block of bytes in a disorder that is the same each time, none of them alike for two seeds of less than 2^24.
func mixed(seed int) []byte {
	b, x := make([]byte, size), uint32(seed)
	for k := range b {
		x = x*1664525 + 1013904223
		b[k] = byte(x >> 24)
	}
	b[0], b[77], b[size-1] = byte(seed), byte(seed>>8), byte(seed>>16)
	return b
}

// write is one of a plain list of them.
type write struct {
	k int
	b []byte
}

// plain is a platter by 7.1's own words: what was done since all was 0, and what is pending.
type plain struct {
	blocks  int
	done    []write
	pending []write
	writes  int
}

// read is what stands in a block: the last of those that were written to it.
func (m *plain) read(k int) []byte {
	for _, l := range [][]write{m.pending, m.done} {
		for n := len(l) - 1; n >= 0; n-- {
			if l[n].k == k {
				return l[n].b
			}
		}
	}
	return make([]byte, size)
}

func (m *plain) write(k int, b []byte) bool {
	if k < 0 || k >= m.blocks || len(b) != size {
		return false
	}
	m.pending = append(m.pending, write{k, bytes.Clone(b)})
	m.writes++
	return true
}

func (m *plain) flush() { m.done, m.pending = append(m.done, m.pending...), nil }

func (m *plain) crash(keep []int) {
	for n, w := range m.pending {
		if slices.Contains(keep, n) {
			m.done = append(m.done, w)
		}
	}
	m.pending = nil
}

func (m *plain) wipe() { m.done, m.pending = nil, nil }

// places are the blocks of what is pending.
func (m *plain) places() []int {
	var l []int
	for _, w := range m.pending {
		l = append(l, w.k)
	}
	return l
}

// pair is a platter, and the plain one that it is held against.
type pair struct {
	p *platter.Platter
	m *plain
}

// fresh is a new pair of that many blocks.
func fresh(blocks int) *pair {
	return &pair{platter.New(blocks), &plain{blocks: blocks}}
}

// write writes to both, and checks that both tell the same of it.
func (a *pair) write(t *testing.T, k int, b []byte) {
	t.Helper()
	want := a.m.write(k, b)
	if got := a.p.Write(k, b); got != want {
		t.Fatalf("7.1: Write(%d, %d bytes) on %d blocks: %v, not %v", k, len(b), a.m.blocks, got, want)
	}
}

func (a *pair) flush() {
	a.p.Flush()
	a.m.flush()
}

func (a *pair) crash(keep ...int) {
	a.p.Crash(keep)
	a.m.crash(keep)
}

func (a *pair) wipe() {
	a.p.Wipe()
	a.m.wipe()
}

// holds checks both against one another, by every call that changes nothing.
func (a *pair) holds(t *testing.T, what string) {
	t.Helper()
	for range 2 {
		if got := a.p.Blocks(); got != a.m.blocks {
			t.Fatalf("7.1: %s: Blocks: %d, not %d", what, got, a.m.blocks)
		}
		if got := a.p.Writes(); got != a.m.writes {
			t.Fatalf("7.1: %s: Writes: %d, not %d", what, got, a.m.writes)
		}
		if got := a.p.Pending(); !slices.Equal(got, a.m.places()) {
			t.Fatalf("7.1: %s: Pending: %v, not %v", what, got, a.m.places())
		}
		for k := range a.m.blocks {
			if b, ok := a.p.Read(k); !ok || !bytes.Equal(b, a.m.read(k)) {
				t.Fatalf("7.1: %s: Read(%d): %v %v, not %v", what, k, b, ok, a.m.read(k))
			}
		}
	}
	for _, k := range outside(a.m.blocks) {
		if b, ok := a.p.Read(k); ok || len(b) != 0 {
			t.Fatalf("7.1, R3: %s: Read(%d) of %d blocks: %v %v", what, k, a.m.blocks, b, ok)
		}
	}
}

// outside are places where a platter of that many has no block.
func outside(blocks int) []int {
	return []int{blocks, blocks + 1, 2 * blocks, -1, -blocks, 1000, 1 << 32, -1 << 32, 1 << 62, math.MaxInt, math.MinInt}
}

// is checks what stands in the first blocks, each of one number alone.
func is(t *testing.T, what string, p *platter.Platter, want ...int) {
	t.Helper()
	for k, n := range want {
		if b, ok := p.Read(k); !ok || !bytes.Equal(b, block(n)) {
			t.Errorf("7.1: %s: block %d: %v %v, not %d", what, k, b, ok, n)
		}
	}
}

func TestExample(t *testing.T) {
	p := platter.New(1)
	if !p.Write(0, block(1)) || !p.Write(0, block(2)) {
		t.Error("7.1: Write: false")
	}
	is(t, "before the Crash", p, 2)
	p.Crash([]int{0})
	is(t, "the example", p, 1)
	if len(p.Pending()) != 0 || p.Writes() != 2 {
		t.Errorf("7.1: behind the Crash: pending %v, %d writes", p.Pending(), p.Writes())
	}
}

// TestWritten: a run with its answers written out.
func TestWritten(t *testing.T) {
	p := platter.New(3)
	is(t, "a new one", p, 0, 0, 0)
	p.Write(2, block(1))
	p.Write(0, block(2))
	p.Write(2, block(3))
	is(t, "three pending", p, 2, 0, 3)
	if got := p.Pending(); !slices.Equal(got, []int{2, 0, 2}) {
		t.Errorf("7.1: Pending: %v", got)
	}
	p.Flush()
	is(t, "flushed", p, 2, 0, 3)
	p.Write(1, block(4))
	p.Write(2, block(5))
	p.Write(1, block(6))
	is(t, "three more", p, 2, 6, 5)
	if got := p.Pending(); !slices.Equal(got, []int{1, 2, 1}) {
		t.Errorf("7.1: Pending: %v", got)
	}
	p.Crash([]int{0})
	is(t, "the first of three was kept", p, 2, 4, 3)
	p.Write(0, block(7))
	p.Crash(nil)
	is(t, "none was kept", p, 2, 4, 3)
	p.Write(0, block(8))
	p.Wipe()
	is(t, "wiped", p, 0, 0, 0)
	if len(p.Pending()) != 0 || p.Writes() != 8 || p.Blocks() != 3 {
		t.Errorf("7.1: at the end: pending %v, %d writes, %d blocks", p.Pending(), p.Writes(), p.Blocks())
	}
}

// TestSizes: how many blocks there are, and that each of them, and none beside them, is one.
func TestSizes(t *testing.T) {
	for _, c := range [][2]int{
		{math.MinInt, 1}, {-1 << 32, 1}, {-1000, 1}, {-1, 1}, {0, 1}, {1, 1}, {2, 2}, {96, 96}, {500, 500}, {999, 999},
		{1000, 1000}, {1001, 1000}, {2000, 1000}, {1 << 16, 1000}, {1<<32 + 5, 1000}, {math.MaxInt, 1000},
	} {
		a := &pair{platter.New(c[0]), &plain{blocks: c[1]}}
		a.holds(t, "a new one")
		a.write(t, 0, mixed(1))
		a.write(t, c[1]-1, mixed(2))
		for _, k := range outside(c[1]) {
			a.write(t, k, mixed(3))
		}
		a.holds(t, "its first and its last block written")
		a.flush()
		a.holds(t, "flushed")
		a.wipe()
		a.holds(t, "wiped")
	}
}

// TestNew: each call on a platter that is new.
func TestNew(t *testing.T) {
	for _, blocks := range []int{1, 2, 96, 1000} {
		for what, f := range map[string]func(a *pair){
			"Flush":                 func(a *pair) { a.flush() },
			"Crash of nil":          func(a *pair) { a.crash() },
			"Crash of an empty one": func(a *pair) { a.crash([]int{}...) },
			"Crash of some":         func(a *pair) { a.crash(0, 1, -1, blocks) },
			"Wipe":                  func(a *pair) { a.wipe() },
			"Write":                 func(a *pair) { a.write(t, blocks-1, mixed(blocks)) },
			"Write of none":         func(a *pair) { a.write(t, 0, nil) },
			"Write past the end":    func(a *pair) { a.write(t, blocks, mixed(blocks)) },
		} {
			a := fresh(blocks)
			a.holds(t, "a new one")
			f(a)
			a.holds(t, what+" on a new one")
			a.write(t, 0, mixed(9))
			a.holds(t, what+", and a Write")
		}
	}
}

// TestWriteWrong: where there is no such block, or no block's bytes, nothing is turned.
func TestWriteWrong(t *testing.T) {
	a := fresh(3)
	a.write(t, 0, mixed(1))
	a.flush()
	a.write(t, 1, mixed(2))
	for _, k := range outside(3) {
		for _, n := range []int{0, 1, 159, 160, 161} {
			a.write(t, k, bytes.Repeat([]byte{7}, n))
		}
		a.holds(t, "no such block")
	}
	for n := range 3 * size {
		if n == size {
			continue
		}
		b := bytes.Repeat([]byte{7}, n)
		for k := range 3 {
			a.write(t, k, b)
			// Spare room does not make a block longer, nor shorter.
			a.write(t, k, slices.Grow(b, 2*size))
		}
		a.holds(t, "other than a block's bytes")
	}
	a.write(t, 2, nil)
	a.write(t, 2, mixed(8)[:159])
	a.write(t, 2, slices.Concat(mixed(8), mixed(9)))
	a.holds(t, "nil, one byte less, two blocks")
	// Numbers are told to those that were written alone.
	a.write(t, 2, mixed(3))
	a.crash(1)
	a.holds(t, "behind wrong ones, a Crash that keeps the second")
	if b, _ := a.p.Read(2); !bytes.Equal(b, mixed(3)) {
		t.Errorf("7.1: the second that was written: %v", b)
	}
}

// TestOneBlock: several Writes of one block.
func TestOneBlock(t *testing.T) {
	for keep := range 6 {
		a := fresh(2)
		for n := range 5 {
			a.write(t, 1, block(n+1))
			a.holds(t, "one block again and again")
		}
		a.crash(keep)
		a.holds(t, "one of five was kept")
		want := keep + 1
		if keep == 5 {
			want = 0
		}
		is(t, "one of five was kept", a.p, 0, want)
	}
}

// TestSameAgain: the same bytes written twice, and 0 bytes, are pending, too.
func TestSameAgain(t *testing.T) {
	a := fresh(2)
	for range 2 {
		a.write(t, 0, block(0))
		a.write(t, 0, block(0))
		a.write(t, 1, block(5))
		a.write(t, 1, block(5))
		a.holds(t, "the same again")
		a.flush()
		a.holds(t, "the same again, flushed")
	}
	a.write(t, 1, block(0))
	a.write(t, 0, block(6))
	a.write(t, 0, block(0))
	a.holds(t, "0 bytes")
	a.crash(0, 2)
	a.holds(t, "0 bytes, kept")
	is(t, "0 bytes, kept", a.p, 0, 0)
}

// TestAll: Writes over all of it, in several orders.
func TestAll(t *testing.T) {
	for _, blocks := range []int{1, 7, 96, 1000} {
		a := fresh(blocks)
		for k := range blocks {
			a.write(t, blocks-1-k, mixed(k+1))
		}
		a.holds(t, "all of it, from its end on")
		a.flush()
		a.holds(t, "all of it, flushed")
		for k := range blocks {
			a.write(t, k, mixed(3*k+2000))
		}
		a.holds(t, "all of it once more")
		var even []int
		for n := 0; n < blocks; n += 2 {
			even = append(even, n)
		}
		a.crash(even...)
		a.holds(t, "all of it, every second kept")
		for k := range blocks {
			a.write(t, k*7%blocks, mixed(k+9000))
		}
		a.crash()
		a.holds(t, "all of it, none kept")
		a.write(t, blocks-1, mixed(4))
		a.wipe()
		a.holds(t, "all of it, wiped")
	}
}

// TestFlush: behind it no Crash takes anything back.
func TestFlush(t *testing.T) {
	for _, keep := range [][]int{nil, {}, {0}, {0, 1, 2, 3}, {-1}, {7}} {
		a := fresh(3)
		for n, k := range []int{0, 2, 0, 1} {
			a.write(t, k, mixed(n+1))
		}
		a.flush()
		a.holds(t, "flushed")
		a.crash(keep...)
		a.holds(t, "flushed, and a Crash")
		a.flush()
		a.crash(keep...)
		a.holds(t, "flushed twice, and a Crash")
		a.write(t, 1, mixed(8))
		a.write(t, 2, mixed(9))
		a.holds(t, "written behind a Flush")
		a.crash(keep...)
		a.holds(t, "written behind a Flush, and a Crash")
	}
}

// TestNothingPending: Flush and Crash there do nothing.
func TestNothingPending(t *testing.T) {
	a := fresh(4)
	a.write(t, 3, mixed(3))
	a.write(t, 0, mixed(4))
	a.crash(0)
	for range 3 {
		for _, keep := range [][]int{nil, {}, {0}, {0, 1}, {-1, math.MaxInt}} {
			a.flush()
			a.holds(t, "Flush of nothing")
			a.crash(keep...)
			a.holds(t, "Crash of nothing")
		}
		a.write(t, 1, mixed(5))
		a.flush()
	}
}

// lists calls f with each list of up to most numbers below n.
func lists(n, most int, f func([]int)) {
	var more func(l []int)
	more = func(l []int) {
		f(l)
		if len(l) < most {
			for k := range n {
				more(append(slices.Clone(l), k))
			}
		}
	}
	more(nil)
}

// TestCrash: four Writes to two blocks, with each list of up to five numbers: all, none, some, twice, out of order, below 0 and past the end.
func TestCrash(t *testing.T) {
	numbers := []int{0, 1, 2, 3, 4, -1}
	lists(len(numbers), 5, func(l []int) {
		var keep []int
		for _, k := range l {
			keep = append(keep, numbers[k])
		}
		p, want := platter.New(2), []int{9, 0}
		p.Write(0, block(9))
		p.Flush()
		for n := range 4 {
			p.Write(n%2, block(n+1))
			if slices.Contains(keep, n) {
				want[n%2] = n + 1
			}
		}
		p.Crash(keep)
		is(t, "a Crash", p, want...)
		if len(p.Pending()) != 0 || p.Writes() != 5 {
			t.Errorf("7.1: Crash(%v): pending %v, %d writes", keep, p.Pending(), p.Writes())
		}
		// What was kept is done, and what was not does not come back.
		p.Flush()
		p.Crash([]int{0, 1, 2, 3})
		is(t, "a Flush and a Crash behind a Crash", p, want...)
	})
}

// TestCrashOrder: what is kept is done in the order in which it was written, not in that of the numbers.
func TestCrashOrder(t *testing.T) {
	for _, keep := range [][]int{{0, 1, 2}, {2, 1, 0}, {1, 2, 0}, {2, 0}, {2, 2, 0, 0, 1, 1}, {2, -5, 1, 99, 0, 2, 0}} {
		a := fresh(1)
		for n := range 3 {
			a.write(t, 0, block(n+1))
		}
		a.crash(keep...)
		a.holds(t, "out of order")
		is(t, "the last that was kept", a.p, 3)
	}
}

// TestCrashNone: numbers of which there is none keep nothing.
func TestCrashNone(t *testing.T) {
	for _, n := range []int{3, 4, 5, -1, -2, -3, 1000, 1 << 32, 1<<32 + 1, -1 << 32, 1 << 62, math.MaxInt, math.MinInt} {
		a := fresh(5)
		a.write(t, 2, mixed(1))
		a.flush()
		for k := range 3 {
			a.write(t, 2*k, mixed(k+2))
		}
		a.crash(n)
		a.holds(t, "a number of which there is none")
		for k := range 3 {
			a.write(t, 2*k, mixed(k+2))
		}
		a.crash(n, 1, n, n)
		a.holds(t, "one among such numbers")
	}
}

// TestNumbers: they begin at 0 anew behind a Flush, a Crash and a Wipe.
func TestNumbers(t *testing.T) {
	for what, f := range map[string]func(a *pair){
		"Flush":         func(a *pair) { a.flush() },
		"Crash of none": func(a *pair) { a.crash() },
		"Crash of some": func(a *pair) { a.crash(1) },
		"Wipe":          func(a *pair) { a.wipe() },
	} {
		for n := range 4 {
			a := fresh(4)
			a.write(t, 0, mixed(1))
			a.write(t, 1, mixed(2))
			f(a)
			a.holds(t, what)
			a.write(t, 2, mixed(3))
			a.write(t, 3, mixed(4))
			a.write(t, 0, mixed(5))
			a.crash(n)
			a.holds(t, "one of three behind a "+what)
		}
	}
}

// TestWipe: of what was done, of what was pending, and of what is written behind it.
func TestWipe(t *testing.T) {
	a := fresh(3)
	a.write(t, 0, mixed(1))
	a.flush()
	a.write(t, 1, mixed(2))
	a.write(t, 0, mixed(3))
	a.wipe()
	a.holds(t, "wiped")
	is(t, "wiped", a.p, 0, 0, 0)
	a.crash(0, 1)
	a.holds(t, "a Crash behind a Wipe")
	a.wipe()
	a.flush()
	a.holds(t, "a Flush behind a Wipe")
	is(t, "wiped twice", a.p, 0, 0, 0)
	a.write(t, 2, mixed(4))
	a.write(t, 1, mixed(5))
	a.holds(t, "written behind a Wipe")
	a.crash(1)
	a.holds(t, "written behind a Wipe, and one kept")
	a.write(t, 1, mixed(6))
	a.crash()
	a.holds(t, "back to what was done behind the Wipe")
	if got := a.p.Writes(); got != 6 {
		t.Errorf("7.1: Writes behind Wipes: %d, not 6", got)
	}
}

// dice are numbers in a disorder that is the same each time.
type dice uint32

// roll is one of 0 to n - 1.
func (d *dice) roll(n int) int {
	*d = *d*1664525 + 1013904223
	return int(*d>>8) % n
}

// step does one of all things that may be done to a pair.
func (a *pair) step(t *testing.T, d *dice, seed int) {
	switch d.roll(12) {
	case 0:
		a.flush()
	case 1, 2:
		var keep []int
		for range d.roll(8) {
			keep = append(keep, d.roll(len(a.m.pending)+3)-1)
		}
		a.crash(keep...)
	case 3:
		if d.roll(4) == 0 {
			a.wipe()
		}
	case 4:
		a.write(t, d.roll(a.m.blocks+4)-2, mixed(seed)[:size-d.roll(2)])
	default:
		a.write(t, d.roll(a.m.blocks), mixed(seed))
	}
}

// TestRuns: runs of many calls, each against a plain list of writes, and each done twice (R4).
func TestRuns(t *testing.T) {
	for run := range 60 {
		d, again := dice(run), dice(run)
		blocks := 1 + run%9
		a, b := fresh(blocks), fresh(blocks)
		for n := range 150 {
			a.step(t, &d, n+1)
			b.step(t, &again, n+1)
			a.holds(t, "a run")
		}
		b.holds(t, "the same run again")
	}
}

// TestLong: many Writes pending at once, with a Read behind each.
func TestLong(t *testing.T) {
	const n = 60000
	p := platter.New(1000)
	for k := range n {
		if !p.Write(k*7%1000, mixed(k)) {
			t.Fatalf("7.1: Write %d: false", k)
		}
		if b, ok := p.Read(k * 7 % 1000); !ok || !bytes.Equal(b, mixed(k)) {
			t.Fatalf("7.1: Read behind Write %d: %v %v", k, b, ok)
		}
	}
	places := p.Pending()
	if len(places) != n || p.Writes() != n {
		t.Fatalf("7.1: %d pending, %d writes", len(places), p.Writes())
	}
	for k, at := range places {
		if at != k*7%1000 {
			t.Fatalf("7.1: Pending: %d at %d", at, k)
		}
	}
	var keep []int
	for k := n - 2000; k >= 0; k -= 3 {
		keep = append(keep, k, k)
	}
	p.Crash(keep)
	// As 3 and 1000 have no divisor in common, of each 3000 Writes each block has one that is kept.
	last := map[int]int{}
	for _, k := range keep {
		last[k*7%1000] = max(last[k*7%1000], k)
	}
	for k := range 1000 {
		if b, _ := p.Read(k); !bytes.Equal(b, mixed(last[k])) {
			t.Errorf("7.1: block %d behind the Crash: %v, not that of Write %d", k, b, last[k])
		}
	}
}

// guarded is a list with three places of spare room, whose bytes are 0xa5.
func guarded(b []byte) []byte { return append(bytes.Clone(b), 0xa5, 0xa5, 0xa5)[:len(b)] }

// scribble writes over a list, and over its spare room.
func scribble(b []byte) {
	b = b[:cap(b)]
	for k := range b {
		b[k] ^= 0x5a
	}
}

// TestWriteKept: what is written is as it was, and not shared.
func TestWriteKept(t *testing.T) {
	a := fresh(3)
	for n, k := range []int{0, 1, 0, 2, 3, -1} {
		was := mixed(n + 1)
		b := guarded(was)
		a.write(t, k, b)
		if !bytes.Equal(b, was) || string(b[:size+3][size:]) != "\xa5\xa5\xa5" {
			t.Errorf("R2: Write(%d) turned what was given: %v", k, b[:size+3])
		}
		scribble(b)
		a.holds(t, "what was given is written to, R2")
	}
	for _, n := range []int{0, 1, 159, 161} {
		was := bytes.Repeat([]byte{3}, n)
		b := guarded(was)
		a.write(t, 1, b)
		if !bytes.Equal(b, was) || string(b[:n+3][n:]) != "\xa5\xa5\xa5" {
			t.Errorf("R2: a Write of %d bytes turned what was given: %v", n, b[:n+3])
		}
	}
	a.crash(0, 3)
	a.holds(t, "a Crash of what was given, R2")
}

// TestOneListOften: one list, turned from Write to Write.
func TestOneListOften(t *testing.T) {
	a, own := fresh(2), block(0)
	for n := range 6 {
		copy(own, mixed(n+1))
		a.write(t, n%2, own)
	}
	scribble(own)
	a.holds(t, "one list, pending, R2")
	a.crash(0, 1, 2)
	a.holds(t, "one list, behind a Crash, R2")
	copy(own, mixed(8))
	a.write(t, 0, own)
	a.write(t, 1, own)
	a.flush()
	scribble(own)
	a.holds(t, "one list, flushed, R2")
}

// scrawl writes over all that a platter answers, and checks that no two of its lists are one.
func (a *pair) scrawl(t *testing.T, what string) {
	t.Helper()
	for k := range a.m.blocks {
		one, _ := a.p.Read(k)
		other, _ := a.p.Read(k)
		scribble(one)
		if !bytes.Equal(other, a.m.read(k)) {
			t.Errorf("R2: %s: two Reads of block %d share memory", what, k)
		}
		scribble(other)
	}
	one, other := a.p.Pending(), a.p.Pending()
	one = one[:cap(one)]
	for k := range one {
		one[k] = -7
	}
	if !slices.Equal(other, a.m.places()) {
		t.Errorf("R2: %s: two answers of Pending share memory", what)
	}
	a.holds(t, what+", its answers written to, R2")
}

// TestAnswersKept: what is answered is not shared, whatever was done before it.
func TestAnswersKept(t *testing.T) {
	a := fresh(4)
	a.scrawl(t, "a new one")
	for n, k := range []int{0, 1, 0, 2, 2} {
		a.write(t, k, mixed(n+1))
		a.scrawl(t, "pending")
	}
	a.crash(0, 4)
	a.scrawl(t, "behind a Crash")
	a.write(t, 1, mixed(6))
	a.flush()
	a.scrawl(t, "flushed")
	a.write(t, 3, mixed(7))
	a.scrawl(t, "pending behind a Flush")
	a.crash()
	a.scrawl(t, "behind a Crash of all")
	a.wipe()
	a.scrawl(t, "wiped")
	a.write(t, 3, mixed(8))
	a.wipe()
	a.scrawl(t, "wiped again")
}

// TestAnswersStay: what was answered is as it was, whatever is done behind it.
func TestAnswersStay(t *testing.T) {
	a := fresh(2)
	a.write(t, 0, mixed(1))
	a.write(t, 1, mixed(2))
	b, _ := a.p.Read(0)
	places := a.p.Pending()
	stays := func(what string) {
		t.Helper()
		if !bytes.Equal(b, mixed(1)) || !slices.Equal(places, []int{0, 1}) {
			t.Errorf("R2: behind %s the answers are %v, %v", what, b, places)
		}
	}
	a.write(t, 0, mixed(3))
	stays("a Write")
	a.flush()
	stays("a Flush")
	a.write(t, 1, mixed(4))
	a.crash(0)
	stays("a Crash")
	a.wipe()
	a.write(t, 1, mixed(5))
	stays("a Wipe")
}

// TestReadWritten: what was read is written elsewhere, and the two blocks know nothing of one another.
func TestReadWritten(t *testing.T) {
	a := fresh(2)
	a.write(t, 0, mixed(1))
	b, _ := a.p.Read(0)
	a.write(t, 1, b)
	scribble(b)
	a.holds(t, "a block from a block, R2")
	a.write(t, 0, mixed(2))
	a.holds(t, "the one written anew")
	a.crash(0, 1)
	a.holds(t, "the one taken back")
}

// TestKeepKept: the numbers of a Crash are as they were.
func TestKeepKept(t *testing.T) {
	for _, was := range [][]int{nil, {}, {0}, {2, 0, 2, -1, 9}, {3, 2, 1, 0}} {
		a := fresh(2)
		for n := range 4 {
			a.write(t, n%2, mixed(n+1))
		}
		keep := append(slices.Clone(was), -77, 1)[:len(was)]
		a.crash(keep...)
		spare := keep[:len(was)+2][len(was):]
		if !slices.Equal(keep, was) || !slices.Equal(spare, []int{-77, 1}) {
			t.Errorf("R2: Crash(%v) turned what was given: %v %v", was, keep, spare)
		}
		for k := range keep {
			keep[k] = 1
		}
		a.holds(t, "the numbers written to, R2")
		a.write(t, 0, mixed(9))
		a.crash()
		a.holds(t, "a Crash behind it")
	}
}

// TestApart: one platter knows nothing of another one.
func TestApart(t *testing.T) {
	a, b, c := fresh(3), fresh(3), fresh(5)
	each := func(what string) {
		t.Helper()
		for _, x := range []*pair{a, b, c} {
			x.holds(t, "R7: "+what)
		}
	}
	a.write(t, 0, mixed(1))
	a.write(t, 1, mixed(2))
	each("one is written to")
	b.write(t, 1, mixed(3))
	c.write(t, 4, mixed(4))
	each("all are written to")
	b.flush()
	each("another one is flushed")
	a.crash(1)
	each("one crashed")
	c.wipe()
	each("a third is wiped")
	read, _ := a.p.Read(1)
	b.write(t, 2, read)
	scribble(read)
	each("one is written to from another one")
	a.wipe()
	each("the one is wiped")
	b.crash()
	each("the other one crashed")
}

// TestNoPlatter: a nil one, and one that New did not make, have no blocks, and don't panic.
func TestNoPlatter(t *testing.T) {
	for _, p := range []*platter.Platter{nil, {}} {
		for _, k := range []int{0, 1, -1, math.MaxInt, math.MinInt} {
			if b, ok := p.Read(k); ok || len(b) != 0 {
				t.Errorf("R1: Read(%d) of no platter: %v %v", k, b, ok)
			}
			if p.Write(k, block(1)) || p.Write(k, nil) {
				t.Errorf("R1: Write(%d) to no platter: true", k)
			}
		}
		p.Flush()
		p.Crash(nil)
		p.Crash([]int{0, 1, -1})
		p.Wipe()
		if p.Blocks() != 0 || len(p.Pending()) != 0 || p.Writes() != 0 {
			t.Errorf("R1: no platter: %d blocks, pending %v, %d writes", p.Blocks(), p.Pending(), p.Writes())
		}
	}
}
