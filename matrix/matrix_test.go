package matrix_test

import (
	"slices"
	"testing"

	"corbel/field"
	"corbel/matrix"
)

// products are those of each two bytes in the field, by shifts and their remainder; no call of the program's is in it.
var products = func() *[256][256]byte {
	l := &[256][256]byte{}
	for n := range 1 << 16 {
		a, b, sum := n>>8, n&255, 0
		for k := range 8 {
			if b&(1<<k) != 0 {
				sum ^= a << k
			}
		}
		for k := 14; k >= 8; k-- {
			if sum&(1<<k) != 0 {
				sum ^= 0x11d << (k - 8)
			}
		}
		l[a][b] = byte(sum)
	}
	return l
}()

// times is a times b in the field.
func times(a, b byte) byte { return products[a][b] }

// product is a times b, each byte by itself, of matrices that fit.
func product(a, b [][]byte) [][]byte {
	var l [][]byte
	for k := range a {
		var row []byte
		for m := range b[0] {
			var sum byte
			for n := range b {
				sum ^= times(a[k][n], b[n][m])
			}
			row = append(row, sum)
		}
		l = append(l, row)
	}
	return l
}

// determinant is found by the first row's bytes, each with what lies in none of its row and column.
func determinant(a [][]byte) byte {
	if len(a) == 0 {
		return 1
	}
	var sum byte
	for k, x := range a[0] {
		var rest [][]byte
		for _, row := range a[1:] {
			rest = append(rest, slices.Concat(row[:k], row[k+1:]))
		}
		sum ^= times(x, determinant(rest))
	}
	return sum
}

// one is n rows of n, 1 where the row and the column are the same.
func one(n int) [][]byte {
	l := even(n, n, 0)
	for k := range l {
		l[k][k] = 1
	}
	return l
}

// even is n rows of m bytes x.
func even(n, m int, x byte) [][]byte {
	l := [][]byte{}
	for range n {
		l = append(l, slices.Repeat([]byte{x}, m))
	}
	return l
}

// digits is n rows of n bytes, read off the number: its lowest digit to the base of so many first.
func digits(n, number int, of []byte) [][]byte {
	l := even(n, n, 0)
	for k := range n * n {
		l[k/n][k%n] = of[number%len(of)]
		number /= len(of)
	}
	return l
}

// mixed is n rows of m bytes in a disorder that is the same each time.
func mixed(n, m int, seed uint32) [][]byte {
	l := even(n, m, 0)
	for k := range l {
		for j := range l[k] {
			seed = seed*1664525 + 1013904223
			l[k][j] = byte(seed >> 24)
		}
	}
	return l
}

// powers is n rows of n: row k is the number k + 1, 0 times, once, twice, ..; no row leads to another.
func powers(n int) [][]byte {
	l := even(n, n, 1)
	for k := range l {
		for j := 1; j < n; j++ {
			l[k][j] = times(l[k][j-1], byte(k+1))
		}
	}
	return l
}

// alike compares two lists of rows by the test's own means.
func alike(a, b [][]byte) bool {
	if len(a) != len(b) {
		return false
	}
	for k := range a {
		if string(a[k]) != string(b[k]) {
			return false
		}
	}
	return true
}

// copied is a list of the same rows with memory of its own.
func copied(a [][]byte) [][]byte {
	l := make([][]byte, len(a))
	for k := range a {
		l[k] = slices.Clone(a[k])
	}
	return l
}

// guarded is a, each row with three bytes 0xa5 in its spare room, and with one row more in the list's.
func guarded(a [][]byte) [][]byte {
	l := [][]byte{}
	for _, row := range a {
		l = append(l, append(slices.Clone(row), 0xa5, 0xa5, 0xa5)[:len(row)])
	}
	return append(l, []byte{0xa5})[:len(l)]
}

// untouched checks that l, that guarded made of a, is as it was, its spare room too.
func untouched(t *testing.T, what string, l, a [][]byte) {
	t.Helper()
	if !alike(l, a) {
		t.Errorf("R2: %s: an argument is turned: %v, not %v", what, l, a)
	}
	for k, row := range l {
		if string(row[:len(row)+3][len(row):]) != "\xa5\xa5\xa5" {
			t.Errorf("R2: %s: the spare room of row %d", what, k)
		}
	}
	if string(l[:len(l)+1][len(l)]) != "\xa5" {
		t.Errorf("R2: %s: the spare room of the rows", what)
	}
}

// scribble writes over a list of rows, and over its spare room and theirs.
func scribble(a [][]byte) {
	for k := range a {
		row := a[k][:cap(a[k])]
		for j := range row {
			row[j] ^= 0x5a
		}
	}
	for k := range a[:cap(a)] {
		a[:cap(a)][k] = nil
	}
}

// apart checks that no row of a shares memory with another one: each row written to alone.
func apart(t *testing.T, what string, a [][]byte) {
	t.Helper()
	want := copied(a)
	for k := range a {
		row := a[k][:cap(a[k])]
		for j := range row {
			row[j] ^= 0x5a
		}
		for j := range want[k] {
			want[k][j] ^= 0x5a
		}
		if !alike(a, want) {
			t.Fatalf("R2: %s: row %d shares memory with another one", what, k)
		}
	}
}

// wrong are lists of rows that are no matrices.
func wrong() map[string][][]byte {
	uneven := even(64, 64, 1)
	uneven[63] = uneven[63][:63]
	longer := even(64, 64, 1)
	longer[63] = append(longer[63], 1)
	return map[string][][]byte{
		"nil":                       nil,
		"no row":                    {},
		"a row that is nil":         {nil},
		"a row of none":             {{}},
		"rows of none":              {{}, {}, {}},
		"a row of none first":       {{}, {1}},
		"a row of none behind":      {{1}, {}},
		"a row of none between":     {{1}, nil, {1}},
		"65 rows of 1":              even(65, 1, 1),
		"65 rows of 64":             even(65, 64, 1),
		"65 rows of 65":             even(65, 65, 1),
		"65 rows of none":           even(65, 0, 1),
		"1000 rows":                 even(1000, 3, 1),
		"a row of 65":               even(1, 65, 1),
		"64 rows of 65":             even(64, 65, 1),
		"2 rows of 1000":            even(2, 1000, 1),
		"the second is longer":      {{1}, {1, 2}},
		"the second is shorter":     {{1, 2}, {1}},
		"the last of 64 is shorter": uneven,
		"the last of 64 is longer":  longer,
		"the first is too long":     {make([]byte, 65), {1}},
	}
}

func TestRight(t *testing.T) {
	for _, n := range []int{1, 2, 3, 4, 6, 31, 32, 63, 64} {
		for _, m := range []int{1, 2, 3, 4, 6, 31, 32, 63, 64} {
			if !matrix.Right(even(n, m, 0)) || !matrix.Right(mixed(n, m, 1)) {
				t.Errorf("4.1: Right: %d rows of %d", n, m)
			}
		}
	}
	for what, a := range wrong() {
		if matrix.Right(a) {
			t.Errorf("4.1: Right: %s", what)
		}
	}
	for n := range 130 {
		for m := range 130 {
			if got, want := matrix.Right(even(n, m, 7)), n >= 1 && n <= 64 && m >= 1 && m <= 64; got != want {
				t.Errorf("4.1: Right: %d rows of %d: %v", n, m, got)
			}
		}
	}
}

func TestIdentity(t *testing.T) {
	for n := 1; n <= 64; n++ {
		got := matrix.Identity(n)
		if !alike(got, one(n)) {
			t.Fatalf("4.1: Identity(%d): %v", n, got)
		}
		apart(t, "Identity", got)
		scribble(got)
		if again := matrix.Identity(n); !alike(again, one(n)) {
			t.Fatalf("R2: Identity(%d) a second time: %v", n, again)
		}
	}
	for _, n := range []int{0, -1, -2, -64, 65, 66, 128, 256 + 1, 1<<32 + 1, 1 << 62, 1<<63 - 1, -1 << 63} {
		if got := matrix.Identity(n); len(got) != 0 {
			t.Errorf("4.1, R5: Identity(%d) has %d rows", n, len(got))
		}
	}
}

func TestMulWritten(t *testing.T) {
	f := field.New()
	for _, c := range []struct{ a, b, want [][]byte }{
		{[][]byte{{0x80}}, [][]byte{{2}}, [][]byte{{0x1d}}},
		{[][]byte{{1, 2}}, [][]byte{{3}, {4}}, [][]byte{{3 ^ 8}}},
		{[][]byte{{3}, {4}}, [][]byte{{1, 2}}, [][]byte{{3, 6}, {4, 8}}},
		{[][]byte{{1, 1}, {0, 1}}, [][]byte{{1, 1}, {0, 1}}, [][]byte{{1, 0}, {0, 1}}},
		{[][]byte{{0, 1}, {1, 0}}, [][]byte{{5, 6, 7}, {8, 9, 10}}, [][]byte{{8, 9, 10}, {5, 6, 7}}},
		{[][]byte{{1, 2}, {3, 4}}, [][]byte{{0, 0}, {0, 0}}, [][]byte{{0, 0}, {0, 0}}},
		{[][]byte{{1, 1}}, [][]byte{{9}, {9}}, [][]byte{{0}}},
	} {
		if got := matrix.Mul(f, c.a, c.b); !alike(got, c.want) {
			t.Errorf("4.1: %v times %v: %v, not %v", c.a, c.b, got, c.want)
		}
	}
}

// TestMul: sides of all kinds against a product that is reckoned otherwise.
func TestMul(t *testing.T) {
	f := field.New()
	sides := []int{1, 2, 3, 5, 17, 64}
	for _, n := range sides {
		for _, m := range sides {
			for _, p := range sides {
				a, b := mixed(n, m, uint32(n)), mixed(m, p, uint32(p))
				if got, want := matrix.Mul(f, a, b), product(a, b); !alike(got, want) {
					t.Fatalf("4.1: %d by %d times %d by %d: %v, not %v", n, m, m, p, got, want)
				}
			}
		}
	}
}

// TestMulBytes: each two bytes as matrices of one.
func TestMulBytes(t *testing.T) {
	f := field.New()
	for n := range 1 << 16 {
		a, b := byte(n>>8), byte(n)
		if got := matrix.Mul(f, [][]byte{{a}}, [][]byte{{b}}); !alike(got, [][]byte{{times(a, b)}}) {
			t.Fatalf("4.1: %d times %d: %v", a, b, got)
		}
	}
}

// TestMulLaws: by the identity, and of three.
func TestMulLaws(t *testing.T) {
	f := field.New()
	for _, n := range []int{1, 2, 4, 33, 64} {
		a, b, c := mixed(n, 6, 1), mixed(6, 4, 2), mixed(4, n, 3)
		if got := matrix.Mul(f, matrix.Identity(n), a); !alike(got, a) {
			t.Errorf("4.1: the identity times %d rows: %v", n, got)
		}
		if got := matrix.Mul(f, c, matrix.Identity(n)); !alike(got, c) {
			t.Errorf("4.1: rows of %d times the identity: %v", n, got)
		}
		if x, y := matrix.Mul(f, matrix.Mul(f, a, b), c), matrix.Mul(f, a, matrix.Mul(f, b, c)); !matrix.Right(x) || !alike(x, y) {
			t.Errorf("4.1: three of %d: %v and %v", n, x, y)
		}
	}
}

func TestMulNone(t *testing.T) {
	f := field.New()
	for what, a := range wrong() {
		for n := 1; n <= 65; n++ {
			if got := matrix.Mul(f, a, even(n, n, 1)); len(got) != 0 {
				t.Errorf("4.1: Mul: %s times %d rows: %v", what, n, got)
			}
			if got := matrix.Mul(f, even(n, n, 1), a); len(got) != 0 {
				t.Errorf("4.1: Mul: rows of %d times %s: %v", n, what, got)
			}
		}
		if got := matrix.Mul(f, a, a); len(got) != 0 {
			t.Errorf("4.1: Mul: %s by itself: %v", what, got)
		}
	}
	sides := []int{1, 2, 3, 4, 63, 64}
	for _, n := range sides {
		for _, m := range sides {
			a, b := mixed(3, n, 1), mixed(m, 3, 2)
			if got := matrix.Mul(f, a, b); (len(got) == 3) != (n == m) || (len(got) == 0) != (n != m) {
				t.Errorf("4.1: Mul: rows of %d times %d rows: %v", n, m, got)
			}
			if got := matrix.Mul(nil, a, b); len(got) != 0 {
				t.Errorf("4.1: Mul by a nil field: %v", got)
			}
		}
	}
}

// TestInverseWritten: the document's example, and some more.
func TestInverseWritten(t *testing.T) {
	f := field.New()
	for _, c := range []struct{ a, want [][]byte }{
		{[][]byte{{1, 1}, {0, 1}}, [][]byte{{1, 1}, {0, 1}}},
		{[][]byte{{1}}, [][]byte{{1}}},
		{[][]byte{{2}}, [][]byte{{0x8e}}},
		{[][]byte{{0x8e}}, [][]byte{{2}}},
		{[][]byte{{0, 1}, {1, 0}}, [][]byte{{0, 1}, {1, 0}}},
		{[][]byte{{0, 2}, {1, 0}}, [][]byte{{0, 1}, {0x8e, 0}}},
		{[][]byte{{0, 1, 0}, {0, 0, 1}, {1, 0, 0}}, [][]byte{{0, 0, 1}, {1, 0, 0}, {0, 1, 0}}},
		{[][]byte{{1, 5}, {0, 1}}, [][]byte{{1, 5}, {0, 1}}},
		{[][]byte{{1, 1, 0}, {1, 1, 1}, {0, 1, 0}}, [][]byte{{1, 0, 1}, {0, 0, 1}, {1, 1, 0}}},
	} {
		if got, ok := matrix.Inverse(f, c.a); !ok || !alike(got, c.want) {
			t.Errorf("4.1: Inverse of %v: %v %v, not %v", c.a, got, ok, c.want)
		}
	}
}

// leads checks that Inverse leads to the identity from both sides just if the determinant isn't 0.
func leads(t *testing.T, f *field.Field, a [][]byte, is bool) {
	t.Helper()
	got, ok := matrix.Inverse(f, a)
	if ok != is {
		t.Fatalf("4.1: Inverse of %v: %v", a, ok)
	}
	if !is {
		if len(got) != 0 {
			t.Fatalf("4.1, R3: %v beside false, of %v", got, a)
		}
		return
	}
	if !alike(product(a, got), one(len(a))) || !alike(product(got, a), one(len(a))) {
		t.Fatalf("4.1: Inverse of %v: %v", a, got)
	}
}

// TestInverseSmall: all of few rows with some bytes; those with an inverse are the ones whose determinant isn't 0.
func TestInverseSmall(t *testing.T) {
	f := field.New()
	for n := range 256 {
		leads(t, f, [][]byte{{byte(n)}}, n != 0)
	}
	for _, c := range []struct {
		n, all int
		of     []byte
	}{
		{2, 10000, []byte{0, 1, 2, 3, 4, 6, 0x1d, 0x80, 0x8e, 0xff}},
		{3, 19683, []byte{0, 1, 2}},
		{3, 512, []byte{0, 0xff}},
		{4, 65536, []byte{0, 1}},
		{4, 65536, []byte{2, 4}},
	} {
		for k := range c.all {
			a := digits(c.n, k, c.of)
			leads(t, f, a, determinant(a) != 0)
		}
	}
	for k := range uint32(500) {
		for n := 1; n <= 6; n++ {
			a := mixed(n, n, k)
			leads(t, f, a, determinant(a) != 0)
		}
	}
}

// TestInverseSides: of each side up to 64, with an inverse and, one row led to by others, without.
func TestInverseSides(t *testing.T) {
	f := field.New()
	for n := 1; n <= 64; n++ {
		a := powers(n)
		leads(t, f, a, true)
		slices.Reverse(a)
		leads(t, f, a, true)
		back, _ := matrix.Inverse(f, a)
		if twice, ok := matrix.Inverse(f, back); !ok || !alike(twice, a) {
			t.Errorf("4.1: %d rows, there and back", n)
		}
		leads(t, f, one(n), true)
		leads(t, f, even(n, n, 0), false)
		if n == 1 {
			continue
		}
		for _, k := range []int{0, n / 2, n - 1} {
			alikes := copied(a)
			copy(alikes[k], a[(k+1)%n])
			leads(t, f, alikes, false)
			none := copied(a)
			clear(none[k])
			leads(t, f, none, false)
			column := copied(a)
			for _, row := range column {
				row[k] = 0
			}
			leads(t, f, column, false)
			sum := copied(a)
			clear(sum[k])
			for j := range sum {
				for m := range sum[k] {
					if j != k {
						sum[k][m] ^= times(byte(j+2), sum[j][m])
					}
				}
			}
			leads(t, f, sum, false)
		}
	}
}

// TestInverseTurned: where the byte in the corner is 0, and where it is 0 only on the way.
func TestInverseTurned(t *testing.T) {
	f := field.New()
	for n := 2; n <= 64; n++ {
		// one row further, each with a byte of its own
		a := even(n, n, 0)
		for k := range a {
			a[k][(k+1)%n] = byte(k + 1)
		}
		leads(t, f, a, true)
		// 0 from corner to corner, 1 beside: it leads to the identity where n is even
		b := even(n, n, 1)
		for k := range b {
			b[k][k] = 0
		}
		leads(t, f, b, n%2 == 0)
		// without its first byte the determinant is less by so much as the inverse has there
		c := powers(n)
		back, _ := matrix.Inverse(f, c)
		c[0][0] = 0
		leads(t, f, c, len(back) == n && back[0][0] != 1)
	}
	leads(t, f, [][]byte{{0, 1, 2}, {3, 4, 5}, {6, 7, 9}}, true)
	leads(t, f, [][]byte{{1, 1, 2}, {2, 2, 5}, {3, 7, 9}}, true)
	leads(t, f, [][]byte{{0, 1, 2}, {0, 4, 5}, {0, 7, 9}}, false)
}

func TestInverseNone(t *testing.T) {
	f := field.New()
	for what, a := range wrong() {
		if got, ok := matrix.Inverse(f, a); ok || len(got) != 0 {
			t.Errorf("4.1: Inverse: %s: %v", what, got)
		}
		if got, ok := matrix.Inverse(nil, a); ok || len(got) != 0 {
			t.Errorf("4.1: Inverse by a nil field: %s: %v", what, got)
		}
	}
	for n := 1; n <= 64; n++ {
		for _, m := range []int{1, 2, n - 1, n + 1, 63, 64} {
			if m == n || m == 0 {
				continue
			}
			if got, ok := matrix.Inverse(f, mixed(n, m, 5)); ok || len(got) != 0 {
				t.Errorf("4.1: Inverse of %d rows of %d: %v", n, m, got)
			}
		}
		if got, ok := matrix.Inverse(nil, one(n)); ok || len(got) != 0 {
			t.Errorf("4.1: Inverse by a nil field, of %d rows: %v", n, got)
		}
	}
}

func TestSame(t *testing.T) {
	for _, n := range []int{0, 1, 2, 6, 64, 65} {
		for _, m := range []int{0, 1, 2, 6, 64, 65} {
			a := mixed(n, m, 9)
			if !matrix.Same(a, a) || !matrix.Same(a, copied(a)) || !matrix.Same(copied(a), a) {
				t.Errorf("4.1: Same: %d rows of %d", n, m)
			}
			for k := range a {
				for _, j := range []int{0, m / 2, m - 1} {
					if m == 0 {
						continue
					}
					b := copied(a)
					b[k][j] ^= 1 << (j % 8)
					unlike(t, a, b)
				}
				short := copied(a)
				short[k] = append(short[k], 0)
				unlike(t, a, short)
				if m > 0 {
					short[k] = short[k][:m-1]
					unlike(t, a, short)
				}
			}
			unlike(t, a, append(copied(a), nil))
			unlike(t, a, append(copied(a), make([]byte, m)))
			unlike(t, a, append([][]byte{make([]byte, m)}, a...))
		}
	}
}

// unlike checks that a and b are not the same, from both sides.
func unlike(t *testing.T, a, b [][]byte) {
	t.Helper()
	if matrix.Same(a, b) || matrix.Same(b, a) {
		t.Errorf("4.1: Same: %v and %v", a, b)
	}
}

// TestSameShapes: the same bytes cut otherwise, and nil beside what is empty.
func TestSameShapes(t *testing.T) {
	for _, b := range [][][]byte{
		{{1}, {2}, {3}, {4}}, {{1, 2, 3, 4}}, {{1, 2, 3}, {4}}, {{1}, {2, 3, 4}}, {{1, 3}, {2, 4}}, {{3, 4}, {1, 2}},
		{{1, 2}, {3, 4}, {}}, {{}, {1, 2}, {3, 4}}, {{1, 2}}, {{3, 4}}, {{1, 2}, nil}, {}, nil, {{}}, {{}, {}},
	} {
		unlike(t, [][]byte{{1, 2}, {3, 4}}, b)
	}
	unlike(t, nil, [][]byte{nil})
	unlike(t, [][]byte{{}}, [][]byte{{}, {}})
	if !matrix.Same(nil, [][]byte{}) || !matrix.Same([][]byte{}, nil) || !matrix.Same(nil, nil) {
		t.Error("R2: Same: nil and no row")
	}
	if !matrix.Same([][]byte{nil, {1}}, [][]byte{{}, {1}}) {
		t.Error("R2: Same: a row that is nil and one of none")
	}
	if !matrix.Same([][]byte{{1}, {1, 2}}, [][]byte{{1}, {1, 2}}) {
		t.Error("4.1: Same: uneven rows")
	}
}

// TestKept: what is handed in is as it was, and none of it is in an answer.
func TestKept(t *testing.T) {
	f := field.New()
	for _, n := range []int{1, 2, 3, 8, 64} {
		wasA, wasB := powers(n), mixed(n, 64, 7)
		a, b := guarded(wasA), guarded(wasB)
		wantMul := product(wasA, wasB)
		gotMul := matrix.Mul(f, a, b)
		gotInv, ok := matrix.Inverse(f, a)
		again, okAgain := matrix.Inverse(f, a)
		if !ok || !okAgain || !alike(again, gotInv) {
			t.Fatalf("R4: the second Inverse of %d rows is another one", n)
		}
		if !matrix.Right(a) || !matrix.Same(a, wasA) {
			t.Errorf("4.1: %d rows with spare room", n)
		}
		untouched(t, "a", a, wasA)
		untouched(t, "b", b, wasB)
		scribble(again)
		untouched(t, "a, its inverse written to", a, wasA)
		if !alike(product(wasA, gotInv), one(n)) {
			t.Errorf("R2: two inverses share memory")
		}
		wantInv := copied(gotInv)
		scribble(matrix.Mul(f, a, b))
		scribble(matrix.Mul(f, a, one(n)))
		scribble(matrix.Mul(f, one(n), b))
		untouched(t, "a, a product written to", a, wasA)
		untouched(t, "b, a product written to", b, wasB)
		scribble(a)
		scribble(b)
		if !alike(gotMul, wantMul) || !alike(gotInv, wantInv) {
			t.Errorf("R2: an answer of %d rows shares memory with an argument", n)
		}
		apart(t, "Mul", gotMul)
		apart(t, "Inverse", gotInv)
	}
}

// TestKeptNone: where there is no answer, too, nothing is turned.
func TestKeptNone(t *testing.T) {
	f := field.New()
	was := [][]byte{{0, 2, 3}, {4, 5, 6}, {4, 7, 5}}
	a := guarded(was)
	if got, ok := matrix.Inverse(f, a); ok || len(got) != 0 {
		t.Fatalf("the test itself: %v", got)
	}
	if got := matrix.Mul(f, a, [][]byte{{1}}); len(got) != 0 {
		t.Fatalf("4.1: %v", got)
	}
	untouched(t, "one without an inverse", a, was)
}

// TestOneRowTwice: the same memory as two rows, or as both matrices.
func TestOneRowTwice(t *testing.T) {
	f := field.New()
	row := []byte{3, 7}
	a := [][]byte{row, row}
	if got, want := matrix.Mul(f, a, a), product(a, a); !alike(got, want) {
		t.Errorf("4.1: %v by itself: %v, not %v", a, got, want)
	}
	leads(t, f, a, false)
	if string(row) != "\x03\x07" {
		t.Errorf("R2: %v", row)
	}
	// overlapping pieces of one list
	l := []byte{1, 0, 1, 1}
	b := [][]byte{l[0:3], l[1:4], {0, 0, 2}}
	want := determinant(b) != 0
	leads(t, f, b, want)
	if string(l) != "\x01\x00\x01\x01" {
		t.Errorf("R2: %v", l)
	}
}

// TestFields: two fields answer alike.
func TestFields(t *testing.T) {
	f, g := field.New(), field.New()
	a, b := powers(9), mixed(9, 5, 3)
	for range 2 {
		x, _ := matrix.Inverse(f, a)
		y, _ := matrix.Inverse(g, a)
		if len(x) != 9 || !alike(x, y) || !alike(matrix.Mul(f, a, b), matrix.Mul(g, a, b)) {
			t.Error("R4, R7: two fields")
		}
	}
	if *f != *g || *f != *field.New() {
		t.Error("R2: a field is turned")
	}
}

// TestUnmade: a field that New did not make leads to no panic.
func TestUnmade(t *testing.T) {
	f := &field.Field{}
	a := powers(4)
	matrix.Mul(f, a, a)
	if got, ok := matrix.Inverse(f, a); !ok && len(got) != 0 {
		t.Errorf("R3: %v beside false", got)
	}
}
