package matrix

import (
	"math"
	"math/bits"
	"math/rand"
	"slices"
	"testing"

	"hogshead/api"
	"hogshead/field"
)

// The bounds of rows and columns, and numbers far from them.
var counts = []int{math.MinInt, math.MinInt32, -256, -33, -32, -2, -1, 0, 1, 2, 3, 31, 32, 33, 34, 64, 255, 256, 257, 288, math.MaxInt32, math.MaxInt - 1, math.MaxInt}

// may: may there be n rows, or columns?
func may(n int) bool { return 1 <= n && n <= 32 }

// blank is a matrix of noughts, or what may not be one.
func blank(rows, columns int) [][]byte {
	a := make([][]byte, rows)
	for r := range a {
		a[r] = make([]byte, columns)
	}
	return a
}

// random is one of any bytes.
func random(g *rand.Rand, rows, columns int) [][]byte {
	a := blank(rows, columns)
	for r := range a {
		g.Read(a[r])
	}
	return a
}

// unit is the identity.
func unit(n int) [][]byte {
	a := blank(n, n)
	for i := range n {
		a[i][i] = 1
	}
	return a
}

// product is a times b, summed up over columns of a and rows of b.
func product(a, b [][]byte) [][]byte {
	p := blank(len(a), len(b[0]))
	for k := range b {
		for r := range a {
			for c, y := range b[k] {
				p[r][c] = field.Add(p[r][c], field.Mul(a[r][k], y))
			}
		}
	}
	return p
}

// determinant goes on over the first column: it is 0 where there is no inverse.
func determinant(a [][]byte) byte {
	if len(a) == 1 {
		return a[0][0]
	}
	var d byte
	for r := range a {
		rest := make([][]byte, 0, len(a)-1)
		for i, row := range a {
			if i != r {
				rest = append(rest, row[1:])
			}
		}
		d = field.Add(d, field.Mul(a[r][0], determinant(rest)))
	}
	return d
}

// copied is the same in other memory.
func copied(a [][]byte) [][]byte {
	if a == nil {
		return nil
	}
	b := make([][]byte, len(a))
	for r := range a {
		b[r] = slices.Clone(a[r])
	}
	return b
}

// equal: are they the same, row by row and byte by byte?
func equal(a, b [][]byte) bool {
	if len(a) != len(b) {
		return false
	}
	for r := range a {
		if string(a[r]) != string(b[r]) {
			return false
		}
	}
	return true
}

// wrong are what may not be a matrix.
func wrong() [][][]byte {
	l := [][][]byte{nil, {}, {nil}, {{}}, {{}, {}}, {{1}, {}}, {{}, {1}}, {{1}, nil}, {{1}, {1, 2}}, {{1, 2}, {1}}, {{1, 2}, {3, 4}, {5}}, {{1, 2}, {3, 4}, {5, 6, 7}}}
	for _, n := range []int{33, 34, 64, 255, 256, 257, 288} {
		l = append(l, blank(n, 1), blank(1, n), blank(n, n), blank(n, 0), blank(32, n), blank(n, 32))
	}
	return l
}

// each calls f with all square matrices of n rows whose bytes are of those.
func each(n int, of []byte, f func([][]byte)) {
	a := blank(n, n)
	var from func(at int)
	from = func(at int) {
		if at == n*n {
			f(a)
			return
		}
		for _, x := range of {
			a[at/n][at%n] = x
			from(at + 1)
		}
	}
	from(0)
}

// checkInverse holds Inverse against the determinant.
func checkInverse(t *testing.T, a [][]byte) {
	t.Helper()
	b, e := Inverse(a)
	if determinant(a) == 0 {
		if b != nil || e != api.ErrNone {
			t.Fatalf("Inverse(%v): %v %d, though there is none", a, b, e)
		}
		return
	}
	if e != api.OK || !inverses(a, b) {
		t.Fatalf("Inverse(%v): %v %d", a, b, e)
	}
}

// inverses: are they square, of one size, and is one the other's inverse, from both sides?
func inverses(a, b [][]byte) bool {
	for _, x := range [][][]byte{a, b} {
		if len(x) != len(a) {
			return false
		}
		for _, row := range x {
			if len(row) != len(a) {
				return false
			}
		}
	}
	return equal(product(a, b), unit(len(a))) && equal(product(b, a), unit(len(a)))
}

// P4.1

func TestMayOfEachSize(t *testing.T) {
	for rows := range 70 {
		for columns := range 70 {
			if v, want := May(blank(rows, columns)), may(rows) && may(columns); v != want {
				t.Errorf("May of %d rows of %d: %t", rows, columns, v)
			}
		}
	}
	for _, a := range [][][]byte{{{0}}, {{255}}, {{1, 2}, {3, 4}}, {{1, 2, 3}}, {{1}, {2}, {3}}} {
		if !May(a) {
			t.Errorf("May(%v): false", a)
		}
	}
	for _, a := range wrong() {
		if May(a) {
			t.Errorf("May(%v): true", a)
		}
	}
}

func TestMayOfRowsThatArentAsLong(t *testing.T) {
	for _, rows := range []int{2, 3, 31, 32} {
		for _, columns := range []int{1, 2, 5, 31, 32} {
			for r := range rows {
				for _, other := range []int{0, 1, columns - 1, columns + 1, 31, 32, 33} {
					a := blank(rows, columns)
					a[r] = make([]byte, other)
					if v := May(a); v != (other == columns) {
						t.Errorf("May of %d rows of %d, the row %d of %d: %t", rows, columns, r, other, v)
					}
				}
			}
		}
	}
}

func TestSameExamples(t *testing.T) {
	for _, x := range []struct {
		a, b [][]byte
		want bool
	}{
		{nil, nil, true}, {nil, [][]byte{}, true}, {[][]byte{nil}, [][]byte{{}}, true}, {[][]byte{{}, nil}, [][]byte{nil, {}}, true},
		{nil, [][]byte{{}}, false}, {nil, [][]byte{nil}, false}, {[][]byte{{}}, [][]byte{{}, {}}, false}, {[][]byte{{}}, [][]byte{{0}}, false},
		{[][]byte{{1}}, [][]byte{{1}}, true}, {[][]byte{{1}}, [][]byte{{2}}, false}, {[][]byte{{0}}, [][]byte{{0, 0}}, false},
		{[][]byte{{1, 2}}, [][]byte{{1}, {2}}, false}, {[][]byte{{1}, {2}}, [][]byte{{2}, {1}}, false}, {[][]byte{{1, 2}}, [][]byte{{2, 1}}, false},
		{[][]byte{{1}, {2}}, [][]byte{{1}}, false}, {[][]byte{{1, 2}, {3}}, [][]byte{{1, 2}, {3}}, true}, {[][]byte{{1, 2}, {3}}, [][]byte{{1}, {2, 3}}, false},
		{blank(33, 1), blank(33, 1), true}, {blank(1, 33), blank(1, 33), true}, {blank(33, 1), blank(32, 1), false}, {blank(1, 33), blank(1, 32), false},
	} {
		if v := Same(x.a, x.b); v != x.want {
			t.Errorf("Same(%v, %v): %t", x.a, x.b, v)
		}
		if v := Same(x.b, x.a); v != x.want {
			t.Errorf("Same(%v, %v): %t", x.b, x.a, v)
		}
	}
}

func TestSameTellsEachByte(t *testing.T) {
	g := rand.New(rand.NewSource(1))
	for _, n := range []struct{ rows, columns int }{{1, 1}, {1, 32}, {32, 1}, {2, 3}, {32, 32}, {40, 40}} {
		a := random(g, n.rows, n.columns)
		b := copied(a)
		if !Same(a, b) || !Same(a, a) {
			t.Errorf("%d rows of %d aren't the same as themselves", n.rows, n.columns)
		}
		for r := range b {
			for c := range b[r] {
				b[r][c] ^= 1 << (c % 8)
				if Same(a, b) || Same(b, a) {
					t.Errorf("%d rows of %d are the same with another byte at %d, %d", n.rows, n.columns, r, c)
				}
				b[r][c] = a[r][c]
			}
		}
	}
}

func TestIdentity(t *testing.T) {
	for _, n := range append(slices.Clone(counts), 4, 10, 14, 30) {
		a, e := Identity(n)
		if !may(n) {
			if a != nil || e != api.ErrArg {
				t.Errorf("Identity(%d): %v %d", n, a, e)
			}
			continue
		}
		if e != api.OK || !equal(a, unit(n)) {
			t.Errorf("Identity(%d): %v %d", n, a, e)
		}
	}
	if a, e := Identity(2); e != api.OK || !equal(a, [][]byte{{1, 0}, {0, 1}}) {
		t.Errorf("Identity(2): %v %d", a, e)
	}
}

func TestPowersExamples(t *testing.T) {
	for _, x := range []struct {
		rows, columns int
		want          [][]byte
	}{
		{1, 1, [][]byte{{1}}}, {1, 3, [][]byte{{1, 0, 0}}}, {3, 1, [][]byte{{1}, {1}, {1}}}, {3, 2, [][]byte{{1, 0}, {1, 1}, {1, 2}}},
		{4, 4, [][]byte{{1, 0, 0, 0}, {1, 1, 1, 1}, {1, 2, 4, 8}, {1, 3, 5, 15}}},
	} {
		if a, e := Powers(x.rows, x.columns); e != api.OK || !equal(a, x.want) {
			t.Errorf("Powers(%d, %d): %v %d", x.rows, x.columns, a, e)
		}
	}
}

func TestPowersOfEachSize(t *testing.T) {
	var want [32][32]byte
	for r := range want {
		want[r][0] = 1
		for c := 1; c < 32; c++ {
			want[r][c] = field.Mul(want[r][c-1], byte(r))
		}
	}
	for rows := 1; rows <= 32; rows++ {
		for columns := 1; columns <= 32; columns++ {
			a, e := Powers(rows, columns)
			if e != api.OK || len(a) != rows {
				t.Fatalf("Powers(%d, %d): %d rows, %d", rows, columns, len(a), e)
			}
			for r := range a {
				if string(a[r]) != string(want[r][:columns]) {
					t.Fatalf("Powers(%d, %d): the row %d is %v", rows, columns, r, a[r])
				}
			}
		}
	}
}

func TestPowersThatMayNotBe(t *testing.T) {
	for _, rows := range counts {
		for _, columns := range counts {
			a, e := Powers(rows, columns)
			if ok := may(rows) && may(columns); ok != (e == api.OK) || !ok && (a != nil || e != api.ErrArg) {
				t.Errorf("Powers(%d, %d): %v %d", rows, columns, a, e)
			}
		}
	}
}

// P4.2

func TestMulExamples(t *testing.T) {
	for _, x := range []struct{ a, b, want [][]byte }{
		{[][]byte{{2}}, [][]byte{{128}}, [][]byte{{29}}},
		{[][]byte{{1, 2}}, [][]byte{{3}, {4}}, [][]byte{{3 ^ 8}}},
		{[][]byte{{3}, {4}}, [][]byte{{1, 2}}, [][]byte{{3, 6}, {4, 8}}},
		{[][]byte{{1, 1}, {0, 1}}, [][]byte{{1, 1}, {0, 1}}, [][]byte{{1, 0}, {0, 1}}},
		{[][]byte{{1, 2}, {3, 4}}, [][]byte{{5, 6}, {7, 8}}, [][]byte{{5 ^ 14, 6 ^ 16}, {15 ^ 28, 10 ^ 32}}},
		{[][]byte{{5, 6}, {7, 8}}, [][]byte{{1, 2}, {3, 4}}, [][]byte{{5 ^ 10, 10 ^ 24}, {7 ^ 24, 14 ^ 32}}},
		{[][]byte{{0, 0}}, [][]byte{{255, 1}, {2, 255}}, [][]byte{{0, 0}}},
		{[][]byte{{1, 0, 2}, {0, 1, 3}}, [][]byte{{1, 0}, {0, 1}, {128, 7}}, [][]byte{{1 ^ 29, 14}, {29 ^ 128, 1 ^ 9}}},
	} {
		if p, e := Mul(x.a, x.b); e != api.OK || !equal(p, x.want) {
			t.Errorf("Mul(%v, %v): %v %d, not %v", x.a, x.b, p, e, x.want)
		}
	}
}

func TestMulOfEachSize(t *testing.T) {
	g := rand.New(rand.NewSource(2))
	sizes := []int{1, 2, 3, 5, 10, 14, 31, 32}
	for _, rows := range sizes {
		for _, middle := range sizes {
			for _, columns := range sizes {
				a, b := random(g, rows, middle), random(g, middle, columns)
				if p, e := Mul(a, b); e != api.OK || !equal(p, product(a, b)) {
					t.Fatalf("Mul of %d rows of %d and of %d: %v %d", rows, middle, columns, p, e)
				}
			}
		}
	}
}

func TestMulSumsEachProduct(t *testing.T) {
	for k := range 32 {
		for x := range 256 {
			a, b := blank(1, 32), blank(32, 1)
			a[0][k], b[k][0] = byte(x), 3
			if p, e := Mul(a, b); e != api.OK || !equal(p, [][]byte{{field.Mul(byte(x), 3)}}) {
				t.Fatalf("Mul of %d times 3 at %d: %v %d", x, k, p, e)
			}
		}
	}
}

func TestMulOfSizesThatDontFit(t *testing.T) {
	sizes := []int{1, 2, 3, 31, 32}
	for _, rows := range sizes {
		for _, columns := range sizes {
			for _, otherRows := range sizes {
				for _, otherColumns := range sizes {
					p, e := Mul(blank(rows, columns), blank(otherRows, otherColumns))
					if columns == otherRows {
						if e != api.OK || !equal(p, blank(rows, otherColumns)) {
							t.Errorf("%d rows of %d times %d of %d: %v %d", rows, columns, otherRows, otherColumns, p, e)
						}
					} else if p != nil || e != api.ErrArg {
						t.Errorf("%d rows of %d times %d of %d: %v %d", rows, columns, otherRows, otherColumns, p, e)
					}
				}
			}
		}
	}
}

func TestMulOfWhatMayNotBe(t *testing.T) {
	fit := append(wrong(), blank(1, 1), blank(2, 2), blank(32, 32), blank(1, 32), blank(32, 1))
	for i, a := range fit {
		for j, b := range fit {
			if May(a) && May(b) {
				continue
			}
			if p, e := Mul(a, b); p != nil || e != api.ErrArg {
				t.Errorf("Mul of %d and %d: %v %d", i, j, p, e)
			}
		}
	}
}

func TestInverseExamples(t *testing.T) {
	for _, x := range []struct{ a, want [][]byte }{
		{[][]byte{{1}}, [][]byte{{1}}},
		{[][]byte{{2}}, [][]byte{{142}}},
		{[][]byte{{1, 1}, {0, 1}}, [][]byte{{1, 1}, {0, 1}}},
		{[][]byte{{0, 1}, {1, 0}}, [][]byte{{0, 1}, {1, 0}}},
		{[][]byte{{2, 0}, {0, 142}}, [][]byte{{142, 0}, {0, 2}}},
		{[][]byte{{1, 0}, {7, 1}}, [][]byte{{1, 0}, {7, 1}}},
		{[][]byte{{0, 2}, {1, 0}}, [][]byte{{0, 1}, {142, 0}}},
		{[][]byte{{0, 0, 1}, {1, 0, 0}, {0, 1, 0}}, [][]byte{{0, 1, 0}, {0, 0, 1}, {1, 0, 0}}},
		{[][]byte{{1, 0}, {1, 1}}, [][]byte{{1, 0}, {1, 1}}},
	} {
		if b, e := Inverse(x.a); e != api.OK || !equal(b, x.want) {
			t.Errorf("Inverse(%v): %v %d, not %v", x.a, b, e, x.want)
		}
	}
	for _, a := range [][][]byte{{{0}}, {{1, 1}, {1, 1}}, {{0, 0}, {0, 0}}, {{1, 0}, {1, 0}}, {{0, 1}, {0, 1}}, {{1, 2}, {2, 4}}, {{1, 0, 0}, {0, 1, 0}, {5, 7, 0}}} {
		if b, e := Inverse(a); b != nil || e != api.ErrNone {
			t.Errorf("Inverse(%v): %v %d", a, b, e)
		}
	}
}

func TestInverseOfAllSmall(t *testing.T) {
	all := make([]byte, 256)
	for x := range all {
		all[x] = byte(x)
	}
	check := func(a [][]byte) { checkInverse(t, a) }
	each(1, all, check)
	each(2, []byte{0, 1, 2, 3, 29, 128, 142, 255}, check)
	each(3, []byte{0, 1, 2}, check)
	each(4, []byte{0, 1}, check)
}

func TestInverseOfEachSize(t *testing.T) {
	g := rand.New(rand.NewSource(3))
	for n := 1; n <= 32; n++ {
		found := 0
		for range 12 {
			a := random(g, n, n)
			b, e := Inverse(a)
			if e == api.OK && inverses(a, b) {
				found++
			} else if e != api.ErrNone || b != nil {
				t.Fatalf("Inverse of %d rows: %v %d", n, b, e)
			}
		}
		// A chance of some 1 in 255 has no inverse.
		if found < 10 {
			t.Errorf("of %d rows, %d of 12 have an inverse", n, found)
		}
	}
}

func TestInverseOfRowsInAnyOrder(t *testing.T) {
	g := rand.New(rand.NewSource(4))
	for n := 1; n <= 32; n++ {
		order := g.Perm(n)
		a, want := blank(n, n), blank(n, n)
		for r, c := range order {
			x := byte(1 + g.Intn(255))
			back, _ := field.Inv(x)
			a[r][c], want[c][r] = x, back
		}
		if b, e := Inverse(a); e != api.OK || !equal(b, want) {
			t.Errorf("Inverse of %d rows in the order %v: %v %d", n, order, b, e)
		}
	}
}

func TestInverseOfWhatHasNone(t *testing.T) {
	g := rand.New(rand.NewSource(5))
	for n := 2; n <= 32; n++ {
		for _, rank := range []int{1, n / 2, n - 1} {
			a := product(random(g, n, rank), random(g, rank, n))
			if b, e := Inverse(a); b != nil || e != api.ErrNone {
				t.Fatalf("Inverse of %d rows of which %d tell the others: %v %d", n, rank, b, e)
			}
		}
		for i := range n {
			row, column, twice := unit(n), unit(n), unit(n)
			clear(row[i])
			for r := range column {
				column[r][i] = 0
			}
			copy(twice[i], twice[(i+1)%n])
			for _, a := range [][][]byte{row, column, twice} {
				if b, e := Inverse(a); b != nil || e != api.ErrNone {
					t.Fatalf("Inverse(%v): %v %d", a, b, e)
				}
			}
		}
	}
}

func TestInverseOfWhatMayNotBe(t *testing.T) {
	for i, a := range wrong() {
		if b, e := Inverse(a); b != nil || e != api.ErrArg {
			t.Errorf("Inverse of %d: %v %d", i, b, e)
		}
	}
	for rows := range 36 {
		for columns := range 36 {
			want := api.ErrNone
			if rows != columns || !may(rows) {
				want = api.ErrArg
			}
			if b, e := Inverse(blank(rows, columns)); b != nil || e != want {
				t.Errorf("Inverse of %d rows of %d: %v %d", rows, columns, b, e)
			}
		}
	}
}

// P4.3

// mul is a product that there is.
func mul(t *testing.T, a, b [][]byte) [][]byte {
	t.Helper()
	p, e := Mul(a, b)
	if e != api.OK {
		t.Fatalf("Mul of %d and %d rows: %d", len(a), len(b), e)
	}
	return p
}

func TestProductsDontHangOnBrackets(t *testing.T) {
	g := rand.New(rand.NewSource(6))
	for range 100 {
		n := [4]int{}
		for i := range n {
			n[i] = 1 + g.Intn(32)
		}
		a, b, c := random(g, n[0], n[1]), random(g, n[1], n[2]), random(g, n[2], n[3])
		if !Same(mul(t, mul(t, a, b), c), mul(t, a, mul(t, b, c))) {
			t.Fatalf("of %v", n)
		}
	}
}

func TestIdentityChangesNothing(t *testing.T) {
	g := rand.New(rand.NewSource(7))
	for rows := 1; rows <= 32; rows++ {
		for columns := 1; columns <= 32; columns++ {
			a := random(g, rows, columns)
			left, e := Identity(rows)
			right, f := Identity(columns)
			if e != api.OK || f != api.OK {
				t.Fatalf("%d %d", e, f)
			}
			if !Same(mul(t, left, a), a) || !Same(mul(t, a, right), a) {
				t.Fatalf("%d rows of %d", rows, columns)
			}
		}
	}
}

func TestInverseTurnsRoundFromBothSides(t *testing.T) {
	g := rand.New(rand.NewSource(8))
	for n := 1; n <= 32; n++ {
		one, e := Identity(n)
		if e != api.OK {
			t.Fatal(e)
		}
		if b, e := Inverse(one); e != api.OK || !Same(b, one) {
			t.Errorf("the identity's inverse: %v %d", b, e)
		}
		for done := 0; done < 4; {
			a := random(g, n, n)
			b, e := Inverse(a)
			if e == api.ErrNone {
				continue
			}
			done++
			if e != api.OK || !Same(mul(t, a, b), one) || !Same(mul(t, b, a), one) {
				t.Fatalf("%v and %v: %d", a, b, e)
			}
			if back, e := Inverse(b); e != api.OK || !Same(back, a) {
				t.Fatalf("the inverse of the inverse of %v: %v %d", a, back, e)
			}
		}
	}
}

// checkRows: have those rows of Powers, of as many columns, an inverse?
func checkRows(t *testing.T, rows []int) {
	t.Helper()
	n := len(rows)
	p, e := Powers(32, n)
	if e != api.OK {
		t.Fatalf("Powers(32, %d): %d", n, e)
	}
	a := make([][]byte, n)
	for i, r := range rows {
		a[i] = p[r]
	}
	if b, e := Inverse(a); e != api.OK || !inverses(a, b) {
		t.Fatalf("the rows %v of Powers have %v: %d", rows, b, e)
	}
}

func TestRowsOfPowersHaveAnInverse(t *testing.T) {
	for chosen := range uint32(1 << 13) {
		// Up to four rows of the first and of the last ones, all of them.
		if n := bits.OnesCount32(chosen); n < 1 || n > 4 {
			continue
		}
		var low, high []int
		for r := range 13 {
			if chosen>>r&1 == 1 {
				low, high = append(low, r), append(high, 31-r)
			}
		}
		checkRows(t, low)
		checkRows(t, high)
	}
	g := rand.New(rand.NewSource(9))
	for n := 1; n <= 32; n++ {
		for range 20 {
			checkRows(t, g.Perm(32)[:n])
		}
	}
}

func TestTheSameRowOfPowersTwice(t *testing.T) {
	for n := 2; n <= 32; n++ {
		p, e := Powers(n, n)
		if e != api.OK {
			t.Fatal(e)
		}
		p[n-1] = p[0]
		if b, e := Inverse(p); b != nil || e != api.ErrNone {
			t.Errorf("%d rows, the first one twice: %v %d", n, b, e)
		}
	}
}

// R3 and R4: what is handed in stays as it is, and what comes out is another's.

// checkOwn: does a change in any row of the answer reach another row, or what was handed in?
func checkOwn(t *testing.T, name string, answer [][]byte, given ...[][]byte) {
	t.Helper()
	want := copied(answer)
	var before [][][]byte
	for _, a := range given {
		before = append(before, copied(a))
	}
	for r := range answer {
		for c := range answer[r] {
			answer[r][c] ^= 255
			want[r][c] ^= 255
		}
		_ = append(answer[r], 1, 2, 3)
		if !equal(answer, want) {
			t.Errorf("%s: the row %d isn't alone", name, r)
		}
	}
	for i := range given {
		if !equal(given[i], before[i]) {
			t.Errorf("%s: what was handed in is changed", name)
		}
	}
}

func TestWhatIsHandedInStays(t *testing.T) {
	g := rand.New(rand.NewSource(10))
	for _, n := range []int{1, 2, 3, 8, 32} {
		for range 5 {
			a, b := random(g, n, n), random(g, n, n)
			a[0][0] = 0
			wantA, wantB := copied(a), copied(b)
			p, _ := Mul(a, b)
			i, _ := Inverse(a)
			Same(a, b)
			May(a)
			if !equal(a, wantA) || !equal(b, wantB) {
				t.Fatalf("%v and %v, which were %v and %v", a, b, wantA, wantB)
			}
			checkOwn(t, "Mul", p, a, b)
			checkOwn(t, "Inverse", i, a)
		}
		one := unit(n)
		if b, e := Inverse(one); e == api.OK {
			checkOwn(t, "Inverse", b, one)
		}
		if p, e := Mul(one, one); e == api.OK {
			checkOwn(t, "Mul", p, one)
		}
	}
}

func TestWhatComesOutIsAnothers(t *testing.T) {
	for _, n := range []int{1, 2, 32} {
		first, _ := Identity(n)
		checkOwn(t, "Identity", first)
		if again, e := Identity(n); e != api.OK || !equal(again, unit(n)) {
			t.Errorf("Identity(%d): %v %d", n, again, e)
		}
		powers, _ := Powers(n, n)
		want := copied(powers)
		checkOwn(t, "Powers", powers)
		if again, e := Powers(n, n); e != api.OK || !equal(again, want) {
			t.Errorf("Powers(%d, %d): %v %d", n, n, again, e)
		}
	}
}

func TestRowsWithRoomBehind(t *testing.T) {
	g := rand.New(rand.NewSource(11))
	for _, n := range []int{1, 2, 3, 16, 32} {
		// Each row goes on into the next one's bytes, and the last one into others.
		all := make([]byte, n*n+2*n)
		g.Read(all)
		a, before := blank(n, n), string(all)
		for r := range a {
			a[r] = all[r*n : (r+1)*n]
		}
		if b, e := Inverse(a); e == api.OK && !inverses(a, b) || e != api.OK && e != api.ErrNone || string(all) != before {
			t.Errorf("Inverse of %d rows: %v %d; what they are of: %t", n, b, e, string(all) == before)
		}
		if p, e := Mul(a, a); e != api.OK || !equal(p, product(a, a)) || string(all) != before {
			t.Errorf("Mul of %d rows: %v %d; what they are of: %t", n, p, e, string(all) == before)
		}
	}
}

func TestRowsThatShareMemory(t *testing.T) {
	row := []byte{1, 2, 3}
	if b, e := Inverse([][]byte{row, row, row}); b != nil || e != api.ErrNone {
		t.Errorf("%v %d", b, e)
	}
	// Three rows that lie one byte apart in one text.
	long := []byte{0, 0, 1, 0, 0}
	a := [][]byte{long[0:3], long[1:4], long[2:5]}
	if b, e := Inverse(a); e != api.OK || !equal(b, [][]byte{{0, 0, 1}, {0, 1, 0}, {1, 0, 0}}) {
		t.Errorf("%v %d", b, e)
	}
	if string(long) != "\x00\x00\x01\x00\x00" {
		t.Errorf("%v", long)
	}
}
