package turn

import (
	"math"
	"math/rand"
	"slices"
	"strings"
	"testing"

	"hogshead/api"
)

// p is what all is modulo.
const p = 8191

// order is how many turns there are but 0: a turn to that power is 1.
const order = p*p - 1

// Parts that may be: about the bounds, and within.
var parts = []int{0, 1, 2, 3, 5, 63, 64, 127, 128, 255, 256, 4095, 4096, 8127, 8188, 8189, 8190}

// Parts that may not be: about the bounds, far from them, and such as are in bounds in fewer bits, or modulo Prime.
var wrongParts = []int{-1, -2, -8190, -8191, -8192, -16382, math.MinInt32, math.MinInt + 1, math.MinInt, 8191, 8192, 8193, 16381, 16382, 16383, 1 << 16, 1<<16 + 1, math.MaxInt32, 1 << 32, 1<<32 + 1, 1<<53 + 1, math.MaxInt - 1, math.MaxInt}

// Lengths far above all texts'.
var far = []int{8190, 8191, 8192, 1 << 16, 1 << 20, order - 1, order, order + 1, math.MaxInt32, 1 << 32, 1<<32 + 1, 1 << 53, 1<<53 + 1, math.MaxInt - 1, math.MaxInt}

// below are numbers below 0.
var below = []int{-1, -2, -3, -8191, math.MinInt32, math.MinInt + 1, math.MinInt}

// What the calls should tell is reckoned with ints: at is the turn of any two.
func at(a, b int) api.Turn { return api.Turn{A: (a%p + p) % p, B: (b%p + p) % p} }

// mulOf is a product: i times i is -1.
func mulOf(x, y api.Turn) api.Turn { return at(x.A*y.A-x.B*y.B, x.A*y.B+x.B*y.A) }

// addOf is a sum, subOf a difference.
func addOf(x, y api.Turn) api.Turn { return at(x.A+y.A, x.B+y.B) }
func subOf(x, y api.Turn) api.Turn { return at(x.A-y.A, x.B-y.B) }

// powerOf halves n, instead of going through its bits from the lowest one on.
func powerOf(n uint64) api.Turn {
	if n == 0 {
		return at(1, 0)
	}
	half := powerOf(n / 2)
	whole := mulOf(half, half)
	if n%2 == 1 {
		whole = mulOf(whole, at(5, 3))
	}
	return whole
}

// byteOf is what a byte counts.
func byteOf(b byte) api.Turn { return at(int(b)+1, 0) }

// printOf is the sum of all bytes, each times the step as often as bytes follow it.
func printOf(s string) api.Turn {
	z, step := api.Turn{}, at(1, 0)
	for i := len(s) - 1; i >= 0; i-- {
		z = addOf(z, mulOf(byteOf(s[i]), step))
		step = mulOf(step, at(5, 3))
	}
	return z
}

// rollOf is what Roll should tell.
func rollOf(z api.Turn, n int, out, in byte) api.Turn {
	kept := subOf(z, mulOf(byteOf(out), powerOf(uint64(n)-1)))
	return addOf(mulOf(kept, at(5, 3)), byteOf(in))
}

// joinOf is what Join should tell.
func joinOf(x, y api.Turn, n int) api.Turn { return addOf(mulOf(x, powerOf(uint64(n))), y) }

// turns are those of parts that may be.
func turns() []api.Turn {
	var l []api.Turn
	for _, a := range parts {
		for _, b := range parts {
			l = append(l, api.Turn{A: a, B: b})
		}
	}
	return l
}

// wrongTurns are such as may not be, by one part or by both.
func wrongTurns() []api.Turn {
	var l []api.Turn
	for _, wrong := range wrongParts {
		for _, other := range []int{0, 1, 8190} {
			l = append(l, api.Turn{A: wrong, B: other}, api.Turn{A: other, B: wrong})
		}
		l = append(l, api.Turn{A: wrong, B: wrong})
	}
	return l
}

// randomTurn is any one that may be.
func randomTurn(g *rand.Rand) api.Turn { return api.Turn{A: g.Intn(p), B: g.Intn(p)} }

// random is a text of n bytes.
func random(g *rand.Rand, n int) string {
	b := make([]byte, n)
	g.Read(b)
	return string(b)
}

// every has each byte once.
func every() string {
	b := make([]byte, 256)
	for i := range b {
		b[i] = byte(i)
	}
	return string(b)
}

// texts: short ones of all kinds, long ones, and random ones of each length up to 200.
func texts() []string {
	l := []string{"", "a", "ab", "ba", "abc", "\x00", "\x00\x00", "\x00\x00\x00", "\xff", "\xff\xff", "\xff\x00", "\x00\xff", "é", "wörter", "\x80\xbf\xfe", every(), noughts(p), noughts(p + 1), strings.Repeat("\xff", api.MaxText)}
	g := rand.New(rand.NewSource(1))
	for n := range 200 {
		l = append(l, random(g, n), random(g, n))
	}
	return append(l, random(g, 8190), random(g, 8191), random(g, 8192), random(g, api.MaxText))
}

// noughts are n of them.
func noughts(n int) string { return strings.Repeat("\x00", n) }

// P7.1

func TestMay(t *testing.T) {
	for _, z := range turns() {
		if !May(z) {
			t.Errorf("%+v may not be", z)
		}
	}
	for _, z := range wrongTurns() {
		if May(z) {
			t.Errorf("%+v may be", z)
		}
	}
}

func TestMayOfEachPart(t *testing.T) {
	for n := -10000; n < 20000; n++ {
		may := 0 <= n && n <= 8190
		if May(api.Turn{A: n}) != may || May(api.Turn{B: n}) != may || May(api.Turn{A: n, B: n}) != may || May(api.Turn{A: n, B: 8190}) != may || May(api.Turn{A: 8190, B: n}) != may {
			t.Fatalf("%d, which may be: %v", n, may)
		}
	}
}

func TestMulExamples(t *testing.T) {
	for _, x := range []struct{ x, y, want api.Turn }{
		{api.Turn{A: 5, B: 3}, api.Turn{A: 5, B: 3}, api.Turn{A: 16, B: 30}},
		{api.Turn{B: 1}, api.Turn{B: 1}, api.Turn{A: 8190}},
		{api.Turn{A: 8190}, api.Turn{A: 8190}, api.Turn{A: 1}},
		{api.Turn{A: 8190}, api.Turn{B: 1}, api.Turn{B: 8190}},
		{api.Turn{B: 8190}, api.Turn{B: 8190}, api.Turn{A: 8190}},
		{api.Turn{A: 8190, B: 8190}, api.Turn{A: 8190, B: 8190}, api.Turn{B: 2}},
		{api.Turn{A: 1, B: 1}, api.Turn{A: 1, B: 8190}, api.Turn{A: 2}},
		{api.Turn{A: 2, B: 3}, api.Turn{A: 5, B: 7}, api.Turn{A: 8180, B: 29}},
		{api.Turn{A: 64, B: 0}, api.Turn{A: 128, B: 0}, api.Turn{A: 1}},
		{api.Turn{A: 1}, api.Turn{A: 77, B: 8189}, api.Turn{A: 77, B: 8189}},
		{api.Turn{}, api.Turn{A: 77, B: 8189}, api.Turn{}},
		{api.Turn{}, api.Turn{}, api.Turn{}},
	} {
		if z := Mul(x.x, x.y); z != x.want {
			t.Errorf("Mul(%+v, %+v): %+v, not %+v", x.x, x.y, z, x.want)
		}
		if z := Mul(x.y, x.x); z != x.want {
			t.Errorf("Mul(%+v, %+v): %+v, not %+v", x.y, x.x, z, x.want)
		}
	}
}

func TestMulIsTheProduct(t *testing.T) {
	l := turns()
	g := rand.New(rand.NewSource(2))
	for range 300 {
		l = append(l, randomTurn(g))
	}
	for _, x := range l {
		for _, y := range l {
			if z := Mul(x, y); z != mulOf(x, y) {
				t.Fatalf("Mul(%+v, %+v): %+v, not %+v", x, y, z, mulOf(x, y))
			}
		}
	}
}

func TestMulOfEachPart(t *testing.T) {
	for n := range p {
		for _, y := range []api.Turn{{A: 1}, {B: 1}, {A: 5, B: 3}, {A: 8190}, {B: 8190}, {A: 8190, B: 8190}} {
			for _, x := range []api.Turn{{A: n}, {B: n}, {A: n, B: n}, {A: n, B: 8190 - n}} {
				if z := Mul(x, y); z != mulOf(x, y) {
					t.Fatalf("Mul(%+v, %+v): %+v, not %+v", x, y, z, mulOf(x, y))
				}
			}
		}
	}
}

func TestMulOfOneThatMayNotBe(t *testing.T) {
	good := []api.Turn{{}, {A: 1}, {B: 1}, {A: 5, B: 3}, {A: 8190, B: 8190}}
	for _, wrong := range wrongTurns() {
		for _, y := range slices.Concat(good, []api.Turn{wrong, {A: -1}, {B: 8191}}) {
			if z := Mul(wrong, y); z != (api.Turn{}) {
				t.Errorf("Mul(%+v, %+v): %+v", wrong, y, z)
			}
			if z := Mul(y, wrong); z != (api.Turn{}) {
				t.Errorf("Mul(%+v, %+v): %+v", y, wrong, z)
			}
		}
	}
}

func TestPowerExamples(t *testing.T) {
	for _, x := range []struct {
		n    uint64
		want api.Turn
	}{
		{0, api.Turn{A: 1}},
		{1, api.Turn{A: 5, B: 3}},
		{2, api.Turn{A: 16, B: 30}},
		{3, api.Turn{A: 8181, B: 198}},
		{4, api.Turn{A: 7547, B: 960}},
		// To the power of Prime i becomes -i.
		{p, api.Turn{A: 5, B: 8188}},
		{p + 1, api.Turn{A: 34}},
		{order, api.Turn{A: 1}},
		{order + 1, api.Turn{A: 5, B: 3}},
	} {
		if z := Power(x.n); z != x.want {
			t.Errorf("Power(%d): %+v, not %+v", x.n, z, x.want)
		}
	}
}

func TestPowerIsTheStepMultiplied(t *testing.T) {
	want := at(1, 0)
	for n := range uint64(20000) {
		if z := Power(n); z != want {
			t.Fatalf("Power(%d): %+v, not %+v", n, z, want)
		}
		want = mulOf(want, at(5, 3))
	}
}

func TestPowerOfGreatNumbers(t *testing.T) {
	l := []uint64{math.MaxUint64, math.MaxUint64 - 1, math.MaxInt64, 1<<53 + 1, order - 1, 2 * order, 7*order + 2}
	for i := range 64 {
		l = append(l, 1<<i, 1<<i-1, 1<<i+1)
	}
	g := rand.New(rand.NewSource(3))
	for range 2000 {
		l = append(l, g.Uint64()>>g.Intn(64))
	}
	for _, n := range l {
		if z := Power(n); z != powerOf(n) || z != powerOf(n%order) {
			t.Fatalf("Power(%d): %+v, not %+v", n, z, powerOf(n))
		}
	}
}

func TestPrintExamples(t *testing.T) {
	for _, x := range []struct {
		s    string
		want api.Turn
	}{
		{"", api.Turn{}},
		{"\x00", api.Turn{A: 1}},
		{"\x00\x00", api.Turn{A: 6, B: 3}},
		{"\x00\x00\x00", api.Turn{A: 22, B: 33}},
		{"a", api.Turn{A: 98}},
		{"\x7f", api.Turn{A: 128}},
		{"\x80", api.Turn{A: 129}},
		{"\xff", api.Turn{A: 256}},
		{"\xff\x00", api.Turn{A: 1281, B: 768}},
		{"\x00\xff", api.Turn{A: 261, B: 3}},
		// Bytes count, not runes: c3 and a9.
		{"é", api.Turn{A: 5*196 + 170, B: 3 * 196}},
	} {
		if z := Print(x.s); z != x.want {
			t.Errorf("Print(%q): %+v, not %+v", x.s, z, x.want)
		}
	}
}

func TestPrintOfEachByte(t *testing.T) {
	for b := range 256 {
		if z := Print(string([]byte{byte(b)})); z != (api.Turn{A: b + 1}) {
			t.Errorf("of %02x: %+v", b, z)
		}
		if z := Print(string([]byte{byte(b), 0})); z != (api.Turn{A: 5*b + 6, B: 3*b + 3}) {
			t.Errorf("of %02x and a nought: %+v", b, z)
		}
	}
}

func TestPrintGoesThroughAllBytes(t *testing.T) {
	for _, s := range texts() {
		if z := Print(s); z != printOf(s) || !May(z) {
			t.Fatalf("Print of %.40q, %d bytes: %+v, not %+v", s, len(s), z, printOf(s))
		}
	}
}

// P7.2

func TestRollExamples(t *testing.T) {
	for _, x := range []struct {
		z       api.Turn
		n       int
		out, in byte
		want    api.Turn
	}{
		// From one nought to another, and from two noughts to one and a byte of 1.
		{api.Turn{A: 1}, 1, 0, 0, api.Turn{A: 1}},
		{api.Turn{A: 6, B: 3}, 2, 0, 1, api.Turn{A: 7, B: 3}},
		{api.Turn{A: 256}, 1, 255, 255, api.Turn{A: 256}},
		// The byte that goes may never have been there.
		{api.Turn{}, 1, 0, 0, api.Turn{A: 8187, B: 8188}},
		{api.Turn{}, 1, 255, 0, api.Turn{A: 6912, B: 7423}},
		{api.Turn{B: 1}, 1, 0, 0, api.Turn{A: 8184, B: 2}},
		{api.Turn{A: 8190, B: 8190}, 1, 0, 2, api.Turn{A: 8187, B: 8180}},
	} {
		if z, e := Roll(x.z, x.n, x.out, x.in); z != x.want || e != api.OK {
			t.Errorf("Roll(%+v, %d, %d, %d): %+v %d, not %+v", x.z, x.n, x.out, x.in, z, e, x.want)
		}
	}
}

func TestRollOfEachTurn(t *testing.T) {
	g := rand.New(rand.NewSource(4))
	for _, z := range turns() {
		for _, n := range slices.Concat([]int{1, 2, 3, 4, 5, 100, 159, 160, 161}, far) {
			for _, out := range []byte{0, 1, 254, 255, byte(g.Intn(256))} {
				in := []byte{0, 1, 254, 255, byte(g.Intn(256))}[g.Intn(5)]
				if next, e := Roll(z, n, out, in); next != rollOf(z, n, out, in) || e != api.OK {
					t.Fatalf("Roll(%+v, %d, %d, %d): %+v %d, not %+v", z, n, out, in, next, e, rollOf(z, n, out, in))
				}
			}
		}
	}
}

func TestRollOfEachByte(t *testing.T) {
	for _, z := range []api.Turn{{}, {A: 1}, {A: 8190, B: 8190}, {A: 4711, B: 815}} {
		for _, n := range []int{1, 2, 7, math.MaxInt} {
			for out := range 256 {
				for in := range 256 {
					if next, e := Roll(z, n, byte(out), byte(in)); next != rollOf(z, n, byte(out), byte(in)) || e != api.OK {
						t.Fatalf("Roll(%+v, %d, %d, %d): %+v %d", z, n, out, in, next, e)
					}
				}
			}
		}
	}
}

func TestRollRefuses(t *testing.T) {
	good := []api.Turn{{}, {A: 1}, {B: 1}, {A: 8190, B: 8190}}
	counts := slices.Concat([]int{1, 2, 160}, far)
	wrongCounts := append([]int{0}, below...)
	refused := func(z api.Turn, n int) {
		t.Helper()
		for _, b := range []byte{0, 1, 255} {
			if next, e := Roll(z, n, b, 255-b); next != (api.Turn{}) || e != api.ErrArg {
				t.Errorf("Roll(%+v, %d, %d, %d): %+v %d", z, n, b, 255-b, next, e)
			}
		}
	}
	for _, z := range wrongTurns() {
		for _, n := range slices.Concat(counts, wrongCounts) {
			refused(z, n)
		}
	}
	for _, z := range good {
		for _, n := range wrongCounts {
			refused(z, n)
		}
	}
}

func TestJoinExamples(t *testing.T) {
	for _, x := range []struct {
		x, y api.Turn
		n    int
		want api.Turn
	}{
		{api.Turn{A: 1}, api.Turn{A: 1}, 1, api.Turn{A: 6, B: 3}},
		{api.Turn{A: 1}, api.Turn{A: 6, B: 3}, 2, api.Turn{A: 22, B: 33}},
		{api.Turn{A: 6, B: 3}, api.Turn{A: 1}, 1, api.Turn{A: 22, B: 33}},
		{api.Turn{A: 7, B: 8}, api.Turn{}, 0, api.Turn{A: 7, B: 8}},
		{api.Turn{}, api.Turn{A: 7, B: 8}, 0, api.Turn{A: 7, B: 8}},
		{api.Turn{}, api.Turn{A: 7, B: 8}, math.MaxInt, api.Turn{A: 7, B: 8}},
		{api.Turn{}, api.Turn{}, 5, api.Turn{}},
		// The second one needn't be a text's, nor n its length: 0 times multiplied is the first one itself.
		{api.Turn{A: 8190, B: 8190}, api.Turn{A: 1, B: 2}, 0, api.Turn{A: 0, B: 1}},
		{api.Turn{A: 8190}, api.Turn{B: 8190}, 2, api.Turn{A: 8175, B: 8160}},
	} {
		if z, e := Join(x.x, x.y, x.n); z != x.want || e != api.OK {
			t.Errorf("Join(%+v, %+v, %d): %+v %d, not %+v", x.x, x.y, x.n, z, e, x.want)
		}
	}
}

func TestJoinOfEachTurn(t *testing.T) {
	g := rand.New(rand.NewSource(5))
	for _, x := range turns() {
		for _, y := range slices.Concat(turns()[:20], []api.Turn{{A: 8190, B: 8190}, randomTurn(g), randomTurn(g)}) {
			for _, n := range append([]int{0, 1, 2, 3, 160}, far[g.Intn(len(far))]) {
				if z, e := Join(x, y, n); z != joinOf(x, y, n) || e != api.OK {
					t.Fatalf("Join(%+v, %+v, %d): %+v %d, not %+v", x, y, n, z, e, joinOf(x, y, n))
				}
			}
		}
	}
	for _, n := range far {
		x, y := randomTurn(g), randomTurn(g)
		if z, e := Join(x, y, n); z != joinOf(x, y, n) || e != api.OK {
			t.Errorf("Join(%+v, %+v, %d): %+v %d, not %+v", x, y, n, z, e, joinOf(x, y, n))
		}
	}
}

func TestJoinRefuses(t *testing.T) {
	good := []api.Turn{{}, {A: 1}, {B: 1}, {A: 8190, B: 8190}}
	counts := slices.Concat([]int{0, 1, 160}, far)
	refused := func(x, y api.Turn, n int) {
		t.Helper()
		if z, e := Join(x, y, n); z != (api.Turn{}) || e != api.ErrArg {
			t.Errorf("Join(%+v, %+v, %d): %+v %d", x, y, n, z, e)
		}
	}
	for _, wrong := range wrongTurns() {
		for _, n := range slices.Concat(counts, below) {
			for _, other := range good {
				refused(wrong, other, n)
				refused(other, wrong, n)
			}
			refused(wrong, wrong, n)
		}
	}
	for _, x := range good {
		for _, y := range good {
			for _, n := range below {
				refused(x, y, n)
			}
		}
	}
}

// P7.3

func TestPrintOfTwoIsTheirJoin(t *testing.T) {
	for _, s := range texts() {
		for _, cut := range []int{0, 1, 2, len(s) / 3, len(s) / 2, len(s) - 2, len(s) - 1, len(s)} {
			if cut < 0 || cut > len(s) {
				continue
			}
			if z, e := Join(Print(s[:cut]), Print(s[cut:]), len(s)-cut); z != Print(s) || e != api.OK {
				t.Fatalf("%.40q, cut at %d: %+v %d, not %+v", s, cut, z, e, Print(s))
			}
		}
	}
}

func TestJoinAtEachPlace(t *testing.T) {
	s := random(rand.New(rand.NewSource(6)), 600)
	for cut := range len(s) + 1 {
		if z, e := Join(Print(s[:cut]), Print(s[cut:]), len(s)-cut); z != Print(s) || e != api.OK {
			t.Fatalf("cut at %d: %+v %d, not %+v", cut, z, e, Print(s))
		}
	}
}

// isRolled fails, if the prints of windows of n bytes of s aren't those that Roll tells, one of the other.
func isRolled(t *testing.T, s string, n int) {
	t.Helper()
	z := Print(s[:n])
	for i := n; i < len(s); i++ {
		next, e := Roll(z, n, s[i-n], s[i])
		if want := Print(s[i-n+1 : i+1]); next != want || e != api.OK {
			t.Fatalf("%.40q, %d bytes up to %d: %+v %d, not %+v", s, n, i, next, e, want)
		}
		z = next
	}
}

func TestRollIsThePrintOneByteLater(t *testing.T) {
	g := rand.New(rand.NewSource(7))
	for _, s := range []string{"the quick brown fox", every(), noughts(40), strings.Repeat("\xff", 40), strings.Repeat("\x00\xff", 40), random(g, 300)} {
		for n := 1; n < len(s); n++ {
			isRolled(t, s, n)
		}
	}
	isRolled(t, random(g, 3*api.VolSize), api.VolSize)
	isRolled(t, random(g, 8300), 8191)
	isRolled(t, random(g, api.MaxText+20), api.MaxText)
}

func TestOneByteIsTold(t *testing.T) {
	g := rand.New(rand.NewSource(8))
	for long := 1; long < 12; long++ {
		b := []byte(random(g, long))
		for place := range b {
			var prints []api.Turn
			for x := range 256 {
				b[place] = byte(x)
				z := Print(string(b))
				if before := slices.Index(prints, z); before >= 0 {
					t.Fatalf("%q, with %02x in the place %d: %+v, as with %02x", b, x, place, z, before)
				}
				prints = append(prints, z)
			}
		}
	}
}

func TestOneByteOfALongTextIsTold(t *testing.T) {
	g := rand.New(rand.NewSource(9))
	b := []byte(random(g, api.MaxText))
	first := Print(string(b))
	for _, place := range []int{0, 1, 8189, 8190, 8191, 8192, 32768, api.MaxText - 2, api.MaxText - 1} {
		was := b[place]
		for _, other := range []byte{was + 1, was - 1, was ^ 128, was ^ 255} {
			b[place] = other
			if z := Print(string(b)); z == first {
				t.Errorf("%02x instead of %02x in the place %d isn't told", other, was, place)
			}
		}
		b[place] = was
	}
	if z := Print(string(b)); z != first {
		t.Errorf("%+v, and %+v before", z, first)
	}
}

// A nought counts, too: texts of noughts alone, of other lengths, aren't held to be the same.
func TestNoughtsAreTold(t *testing.T) {
	seen := map[api.Turn]int{}
	for n := range 4000 {
		z := Print(noughts(n))
		if before, ok := seen[z]; ok {
			t.Fatalf("%d noughts: %+v, as %d", n, z, before)
		}
		seen[z] = n
	}
}

// R4: nothing is kept from call to call.

func TestAnswersHangOnArgumentsAlone(t *testing.T) {
	for _, s := range texts() {
		z := Print(s)
		Power(uint64(len(s)))
		Roll(z, len(s), 1, 2)
		Join(z, z, len(s))
		if z := Print("\x00\x00"); z != (api.Turn{A: 6, B: 3}) {
			t.Fatalf("behind %.40q: %+v", s, z)
		}
		if z := Power(2); z != (api.Turn{A: 16, B: 30}) {
			t.Fatalf("behind %.40q: %+v", s, z)
		}
	}
}

func BenchmarkPrint(b *testing.B) {
	s := strings.Repeat("print..", api.VolSize/7)
	for range b.N {
		Print(s)
	}
}

func BenchmarkPower(b *testing.B) {
	for range b.N {
		Power(math.MaxUint64)
	}
}
