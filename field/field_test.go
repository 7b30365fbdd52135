package field

import (
	"math"
	"math/big"
	"math/rand"
	"testing"

	"hogshead/api"
)

// productOf is the rest of the polynomials' product, by a long division in whole numbers of any size.
func productOf(x, y byte) byte {
	p := new(big.Int)
	for i := range 8 {
		if y>>i&1 == 1 {
			p.Xor(p, new(big.Int).Lsh(big.NewInt(int64(x)), uint(i)))
		}
	}
	// x^8 + x^4 + x^3 + x^2 + 1
	m := new(big.Int)
	for _, power := range []int{8, 4, 3, 2, 0} {
		m.SetBit(m, power, 1)
	}
	for p.BitLen() > 8 {
		p.Xor(p, new(big.Int).Lsh(m, uint(p.BitLen()-9)))
	}
	return byte(p.Uint64())
}

// products are those of all elements, by productOf.
func products() *[256][256]byte {
	var t [256][256]byte
	for x := range 256 {
		for y := range 256 {
			t[x][y] = productOf(byte(x), byte(y))
		}
	}
	return &t
}

// muls are those of all elements, by Mul.
func muls() *[256][256]byte {
	var t [256][256]byte
	for x := range 256 {
		for y := range 256 {
			t[x][y] = Mul(byte(x), byte(y))
		}
	}
	return &t
}

// great are numbers of factors about each power of two, and random ones.
func great() []uint64 {
	l := []uint64{math.MaxUint64, math.MaxUint64 - 1, math.MaxUint64 - 254, math.MaxUint64 - 255}
	for i := range 64 {
		p := uint64(1) << i
		l = append(l, p-1, p, p+1)
	}
	r := rand.New(rand.NewSource(1))
	for range 100 {
		l = append(l, r.Uint64())
	}
	return l
}

// P3.1

func TestAddIsXor(t *testing.T) {
	for _, x := range []struct{ x, y, want byte }{
		{0, 0, 0}, {5, 3, 6}, {1, 1, 0}, {255, 1, 254}, {255, 255, 0}, {128, 128, 0}, {0, 255, 255}, {0xf0, 0x0f, 0xff},
	} {
		if v := Add(x.x, x.y); v != x.want {
			t.Errorf("Add(%d, %d): %d, not %d", x.x, x.y, v, x.want)
		}
	}
	for x := range 256 {
		for y := range 256 {
			v := Add(byte(x), byte(y))
			for i := range 8 {
				if one := x>>i&1 != y>>i&1; one != (v>>i&1 == 1) {
					t.Fatalf("Add(%d, %d): %d, whose bit %d isn't theirs", x, y, v, i)
				}
			}
		}
	}
}

func TestMulExamples(t *testing.T) {
	for _, x := range []struct{ x, y, want byte }{
		{2, 128, 29}, {128, 2, 29}, {3, 7, 9}, {0, 0, 0}, {0, 255, 0}, {255, 0, 0}, {1, 255, 255}, {255, 1, 255},
		{2, 64, 128}, {4, 128, 58}, {2, 142, 1}, {128, 128, 19}, {255, 255, 226},
	} {
		if v := Mul(x.x, x.y); v != x.want {
			t.Errorf("Mul(%d, %d): %d, not %d", x.x, x.y, v, x.want)
		}
	}
}

func TestMulIsTheRestOfTheProduct(t *testing.T) {
	want := products()
	for x := range 256 {
		for y := range 256 {
			if v := Mul(byte(x), byte(y)); v != want[x][y] {
				t.Fatalf("Mul(%d, %d): %d, not %d", x, y, v, want[x][y])
			}
		}
	}
}

func TestPowExamples(t *testing.T) {
	for _, x := range []struct {
		x    byte
		n    uint64
		want byte
	}{
		{0, 0, 1}, {1, 0, 1}, {255, 0, 1}, {0, 1, 0}, {0, 2, 0}, {0, 255, 0}, {0, 256, 0}, {0, math.MaxUint64, 0},
		{2, 1, 2}, {2, 7, 128}, {2, 8, 29}, {2, 254, 142}, {2, 255, 1}, {2, 256, 2}, {3, 2, 5},
		{1, math.MaxUint64, 1}, {2, math.MaxUint64, 1}, {2, 1 << 63, 133}, {2, math.MaxUint64 - 1, 142},
	} {
		if v := Pow(x.x, x.n); v != x.want {
			t.Errorf("Pow(%d, %d): %d, not %d", x.x, x.n, v, x.want)
		}
	}
}

func TestPowMultipliesOneByOne(t *testing.T) {
	times := products()
	for x := range 256 {
		want := byte(1)
		for n := range uint64(1100) {
			if v := Pow(byte(x), n); v != want {
				t.Fatalf("Pow(%d, %d): %d, not %d", x, n, v, want)
			}
			want = times[want][x]
		}
	}
}

func TestPowOfManyFactors(t *testing.T) {
	times := products()
	for x := range 256 {
		// The powers of what isn't 0 come again behind 255 factors: whole numbers of any size tell where.
		var powers [255]byte
		for n := range powers {
			powers[n] = 1
			for range n {
				powers[n] = times[powers[n]][x]
			}
		}
		for _, n := range great() {
			rest := new(big.Int).SetUint64(n)
			rest.Mod(rest, big.NewInt(255))
			want := powers[rest.Int64()]
			if x == 0 && n > 0 {
				want = 0
			}
			if v := Pow(byte(x), n); v != want {
				t.Fatalf("Pow(%d, %d): %d, not %d", x, n, v, want)
			}
		}
	}
}

// P3.2

func TestNothingIsDividedByZero(t *testing.T) {
	if v, e := Inv(0); v != 0 || e != api.ErrArg {
		t.Errorf("Inv(0): %d %d", v, e)
	}
	for x := range 256 {
		if v, e := Div(byte(x), 0); v != 0 || e != api.ErrArg {
			t.Errorf("Div(%d, 0): %d %d", x, v, e)
		}
	}
}

func TestZeroHasNoLog(t *testing.T) {
	if n, e := Log(0); n != 0 || e != api.ErrArg {
		t.Errorf("Log(0): %d %d", n, e)
	}
}

func TestInvGivesOne(t *testing.T) {
	if v, e := Inv(2); v != 142 || e != api.OK {
		t.Errorf("Inv(2): %d %d", v, e)
	}
	if v, e := Inv(1); v != 1 || e != api.OK {
		t.Errorf("Inv(1): %d %d", v, e)
	}
	times := products()
	for x := 1; x < 256; x++ {
		if v, e := Inv(byte(x)); times[x][v] != 1 || e != api.OK {
			t.Errorf("Inv(%d): %d %d", x, v, e)
		}
	}
}

func TestDivIsTimesTheInverse(t *testing.T) {
	for _, x := range []struct{ x, y, want byte }{
		{0, 1, 0}, {0, 255, 0}, {255, 1, 255}, {9, 7, 3}, {9, 3, 7}, {29, 128, 2}, {1, 2, 142}, {77, 77, 1},
	} {
		if v, e := Div(x.x, x.y); v != x.want || e != api.OK {
			t.Errorf("Div(%d, %d): %d %d, not %d", x.x, x.y, v, e, x.want)
		}
	}
	times := products()
	for y := 1; y < 256; y++ {
		for q := range 256 {
			if v, e := Div(times[q][y], byte(y)); v != byte(q) || e != api.OK {
				t.Fatalf("Div(%d, %d): %d %d, not %d", times[q][y], y, v, e, q)
			}
		}
	}
}

func TestLogExamples(t *testing.T) {
	for _, x := range []struct {
		x byte
		n int
	}{{1, 0}, {2, 1}, {4, 2}, {8, 3}, {128, 7}, {29, 8}, {142, 254}, {3, 25}, {255, 175}} {
		if n, e := Log(x.x); n != x.n || e != api.OK {
			t.Errorf("Log(%d): %d %d, not %d", x.x, n, e, x.n)
		}
	}
}

func TestLogIsTheLeast(t *testing.T) {
	times := products()
	for x := 1; x < 256; x++ {
		want := 0
		for p := byte(1); p != byte(x); p = times[p][2] {
			want++
		}
		if n, e := Log(byte(x)); n != want || e != api.OK {
			t.Errorf("Log(%d): %d %d, not %d", x, n, e, want)
		}
	}
}

func TestTablesHavePowersAndLogs(t *testing.T) {
	times := products()
	want, wantLogs := [255]byte{}, [256]int{0: -1}
	for n, p := 0, byte(1); n < 255; n, p = n+1, times[p][2] {
		want[n], wantLogs[p] = p, n
	}
	powers, logs := Tables()
	if powers != want {
		t.Errorf("%d, not %d", powers, want)
	}
	if logs != wantLogs {
		t.Errorf("%d, not %d", logs, wantLogs)
	}
}

func TestTablesAreWhatTheCallsTell(t *testing.T) {
	powers, logs := Tables()
	for n, p := range powers {
		if v := Pow(2, uint64(n)); v != p {
			t.Errorf("Pow(2, %d): %d, not %d", n, v, p)
		}
	}
	for x, n := range logs {
		v, e := Log(byte(x))
		if x == 0 && (n != -1 || e != api.ErrArg) || x > 0 && (v != n || e != api.OK) {
			t.Errorf("Log(%d): %d %d, not %d", x, v, e, n)
		}
	}
}

// P3.3

func TestSumsAndProductsDontHangOnTheOrder(t *testing.T) {
	m := muls()
	for x := range 256 {
		for y := range 256 {
			if Add(byte(x), byte(y)) != Add(byte(y), byte(x)) || m[x][y] != m[y][x] {
				t.Fatalf("%d and %d", x, y)
			}
			for z := range 256 {
				if Add(Add(byte(x), byte(y)), byte(z)) != Add(byte(x), Add(byte(y), byte(z))) {
					t.Fatalf("the sum of %d, %d and %d", x, y, z)
				}
				if m[m[x][y]][z] != m[x][m[y][z]] {
					t.Fatalf("the product of %d, %d and %d", x, y, z)
				}
			}
		}
	}
}

func TestProductOverASum(t *testing.T) {
	m := muls()
	for x := range 256 {
		for y := range 256 {
			for z := range 256 {
				if m[x][Add(byte(y), byte(z))] != Add(m[x][y], m[x][z]) {
					t.Fatalf("%d times the sum of %d and %d", x, y, z)
				}
			}
		}
	}
}

func TestOneInverse(t *testing.T) {
	m := muls()
	for x := range 256 {
		var found []byte
		for y := range 256 {
			if m[x][y] == 1 {
				found = append(found, byte(y))
			}
		}
		if x == 0 {
			if len(found) != 0 {
				t.Errorf("0 has the inverses %d", found)
			}
			continue
		}
		v, e := Inv(byte(x))
		if len(found) != 1 || found[0] != v || e != api.OK {
			t.Errorf("%d has the inverses %d, not %d (%d)", x, found, v, e)
			continue
		}
		if back, e := Inv(v); back != byte(x) || e != api.OK {
			t.Errorf("%d is the inverse of %d's: %d", back, x, e)
		}
	}
}

func TestPowerOf255IsOne(t *testing.T) {
	for x := 1; x < 256; x++ {
		if v := Pow(byte(x), 255); v != 1 {
			t.Errorf("Pow(%d, 255): %d", x, v)
		}
	}
	if v := Pow(0, 255); v != 0 {
		t.Errorf("Pow(0, 255): %d", v)
	}
}

func TestLogOfAProductIsTheSumOfTheLogs(t *testing.T) {
	var logs [256]int
	for x := 1; x < 256; x++ {
		n, e := Log(byte(x))
		if n < 0 || n > 254 || e != api.OK {
			t.Fatalf("Log(%d): %d %d", x, n, e)
		}
		logs[x] = n
	}
	for x := 1; x < 256; x++ {
		for y := 1; y < 256; y++ {
			if p := Mul(byte(x), byte(y)); p == 0 || logs[p] != (logs[x]+logs[y])%255 {
				t.Fatalf("the Log of %d, %d times %d: %d", p, x, y, logs[p])
			}
		}
	}
}

// R3 and R4: what came out is another's, and nothing is kept from call to call.

func TestTablesAreMadeAnew(t *testing.T) {
	powers, logs := Tables()
	first, firstLogs := powers, logs
	clear(powers[:])
	clear(logs[:])
	if again, againLogs := Tables(); again != first || againLogs != firstLogs {
		t.Errorf("%d %d", again, againLogs)
	}
	if n, e := Log(8); n != 3 || e != api.OK {
		t.Errorf("Log(8): %d %d", n, e)
	}
}
