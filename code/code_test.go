package code

import (
	"math"
	"math/bits"
	"math/rand"
	"slices"
	"strconv"
	"strings"
	"testing"

	"hogshead/api"
	"hogshead/field"
	"hogshead/matrix"
)

// The bounds of k and m, and numbers far from them: of some the sum goes round.
var counts = []int{math.MinInt, math.MinInt + 1, math.MinInt + 32, math.MinInt32, -256, -33, -32, -31, -2, -1, 0, 1, 2, 15, 16, 17, 30, 31, 32, 33, 34, 64, 255, 256, 257, math.MaxInt32, math.MaxInt - 32, math.MaxInt - 31, math.MaxInt - 1, math.MaxInt}

// size is one of k and m.
type size struct{ k, m int }

func (n size) String() string { return "k " + strconv.Itoa(n.k) + ", m " + strconv.Itoa(n.m) }

// sizes are all k and m that may be.
func sizes() []size {
	var l []size
	for k := 1; k <= 32; k++ {
		for m := 0; k+m <= 32; m++ {
			l = append(l, size{k, m})
		}
	}
	return l
}

// wrong are k and m that may not be.
func wrong() []size {
	var l []size
	for _, k := range counts {
		for _, m := range counts {
			if k < 1 || m < 0 || k > 32 || m > 32 || k+m > 32 {
				l = append(l, size{k, m})
			}
		}
	}
	return l
}

// part is what the one polynomial of fewer powers than there are points, which is 1 at the point i and 0 at the others, has at x.
func part(points []byte, i int, x byte) byte {
	above, below := byte(1), byte(1)
	for j, p := range points {
		if j != i {
			above, below = field.Mul(above, field.Add(x, p)), field.Mul(below, field.Add(points[i], p))
		}
	}
	quotient, _ := field.Div(above, below)
	return quotient
}

// allOf are the n shards whose bytes, place by place, a polynomial through those pieces has.
func allOf(n int, pieces []api.Piece) []string {
	points := make([]byte, len(pieces))
	for i, p := range pieces {
		points[i] = byte(p.Idx)
	}
	l := make([]string, n)
	for r := range l {
		b := make([]byte, len(pieces[0].Bytes))
		for i, p := range pieces {
			times := part(points, i, byte(r))
			for at := range b {
				b[at] = field.Add(b[at], field.Mul(times, p.Bytes[at]))
			}
		}
		l[r] = string(b)
	}
	return l
}

// pieces are shards with their numbers.
func pieces(l []string) []api.Piece {
	var have []api.Piece
	for i, s := range l {
		have = append(have, api.Piece{Idx: i, Bytes: s})
	}
	return have
}

// told are pieces, to be read.
func told(have []api.Piece) string {
	var b strings.Builder
	for _, p := range have {
		b.WriteString(" " + strconv.Itoa(p.Idx) + " " + strconv.Quote(p.Bytes))
	}
	return b.String()
}

// random are n shards of any bytes.
func random(g *rand.Rand, n, long int) []string {
	l := make([]string, n)
	for i := range l {
		b := make([]byte, long)
		g.Read(b)
		l[i] = string(b)
	}
	return l
}

// encoded are data, and what Encode makes besides.
func encoded(t *testing.T, n size, data []string) []string {
	t.Helper()
	rest, e := Encode(n.k, n.m, data)
	if e != api.OK || len(rest) != n.m {
		t.Fatalf("%v: Encode: %q %d", n, rest, e)
	}
	return append(slices.Clone(data), rest...)
}

// flipped is a text with one bit turned round.
func flipped(s string, at, bit int) string {
	b := []byte(s)
	b[at] ^= 1 << bit
	return string(b)
}

// sum is the xor of two texts as long.
func sum(a, b string) string {
	l := []byte(a)
	for i := range l {
		l[i] ^= b[i]
	}
	return string(l)
}

// sameRows: are they the same, row by row?
func sameRows(a, b [][]byte) bool {
	return slices.EqualFunc(a, b, func(x, y []byte) bool { return string(x) == string(y) })
}

// P5.1

func TestMayOfAllAboutTheBounds(t *testing.T) {
	for k := -3; k < 40; k++ {
		for m := -3; m < 40; m++ {
			if v := May(k, m); v != slices.Contains(sizes(), size{k, m}) {
				t.Errorf("May(%d, %d): %t", k, m, v)
			}
		}
	}
}

func TestMayOfNumbersFarOff(t *testing.T) {
	for _, n := range wrong() {
		if May(n.k, n.m) {
			t.Errorf("May(%d, %d)", n.k, n.m)
		}
	}
	for _, n := range []size{{1, 0}, {1, 31}, {32, 0}, {31, 1}, {10, 4}, {2, 1}, {16, 16}} {
		if !May(n.k, n.m) {
			t.Errorf("not May(%d, %d)", n.k, n.m)
		}
	}
}

func TestTableExamples(t *testing.T) {
	for _, x := range []struct {
		n    size
		want [][]byte
	}{
		{size{2, 1}, [][]byte{{1, 0}, {0, 1}, {3, 2}}},
		{size{1, 0}, [][]byte{{1}}},
		{size{1, 3}, [][]byte{{1}, {1}, {1}, {1}}},
		{size{2, 0}, [][]byte{{1, 0}, {0, 1}}},
		{size{2, 2}, [][]byte{{1, 0}, {0, 1}, {3, 2}, {2, 3}}},
		{size{3, 1}, [][]byte{{1, 0, 0}, {0, 1, 0}, {0, 0, 1}, {1, 1, 1}}},
	} {
		if a, e := Table(x.n.k, x.n.m); e != api.OK || !sameRows(a, x.want) {
			t.Errorf("%v: %v %d, not %v", x.n, a, e, x.want)
		}
	}
}

func TestTableIsOfPowersAndTheirInverse(t *testing.T) {
	for _, n := range sizes() {
		powers, _ := matrix.Powers(n.k+n.m, n.k)
		inverse, _ := matrix.Inverse(powers[:n.k])
		want, e := matrix.Mul(powers, inverse)
		if e != api.OK {
			t.Fatal(e)
		}
		if a, e := Table(n.k, n.m); e != api.OK || !sameRows(a, want) {
			t.Fatalf("%v: %v %d, not %v", n, a, e, want)
		}
	}
}

// Each row tells what a polynomial has at the row's number, of what it has at the first k.
func TestTableGoesThroughTheFirst(t *testing.T) {
	for _, n := range sizes() {
		a, e := Table(n.k, n.m)
		if e != api.OK || len(a) != n.k+n.m {
			t.Fatalf("%v: %v %d", n, a, e)
		}
		points := make([]byte, n.k)
		for i := range points {
			points[i] = byte(i)
		}
		for r, row := range a {
			if len(row) != n.k {
				t.Fatalf("%v: the row %d is %v", n, r, row)
			}
			for c, v := range row {
				if want := part(points, c, byte(r)); v != want {
					t.Fatalf("%v: %d at %d, %d, not %d", n, v, r, c, want)
				}
			}
		}
	}
}

func TestTableBeginsWithTheIdentity(t *testing.T) {
	for _, n := range sizes() {
		one, _ := matrix.Identity(n.k)
		a, e := Table(n.k, n.m)
		if e != api.OK || len(a) != n.k+n.m || !sameRows(a[:n.k], one) {
			t.Fatalf("%v: %v %d", n, a, e)
		}
	}
}

func TestTableThatMayNotBe(t *testing.T) {
	for _, n := range wrong() {
		if a, e := Table(n.k, n.m); a != nil || e != api.ErrArg {
			t.Errorf("%v: %v %d", n, a, e)
		}
	}
}

// P5.2

func TestEncodeExamples(t *testing.T) {
	for _, x := range []struct {
		n          size
		data, want []string
	}{
		{size{2, 1}, []string{"\x01", "\x01"}, []string{"\x01"}},
		{size{2, 1}, []string{"\x01", "\x00"}, []string{"\x03"}},
		{size{2, 1}, []string{"\x00", "\x01"}, []string{"\x02"}},
		{size{2, 1}, []string{"\x00\x80", "\x80\x00"}, []string{"\x1d\x9d"}},
		{size{2, 2}, []string{"\x01\x00\x01", "\x00\x01\x01"}, []string{"\x03\x02\x01", "\x02\x03\x01"}},
		{size{1, 2}, []string{"abc"}, []string{"abc", "abc"}},
		{size{3, 1}, []string{"\x01", "\x02", "\x04"}, []string{"\x07"}},
		{size{1, 0}, []string{"abc"}, nil},
		{size{3, 0}, []string{"a", "b", "c"}, nil},
		{size{2, 3}, []string{"", ""}, []string{"", "", ""}},
		{size{2, 0}, []string{"", ""}, nil},
	} {
		if l, e := Encode(x.n.k, x.n.m, x.data); e != api.OK || !slices.Equal(l, x.want) {
			t.Errorf("%v: Encode(%q): %q %d, not %q", x.n, x.data, l, e, x.want)
		}
	}
}

func TestEncodeOfEachSize(t *testing.T) {
	g := rand.New(rand.NewSource(1))
	for _, n := range sizes() {
		data := random(g, n.k, 1+g.Intn(3))
		want := allOf(n.k+n.m, pieces(data))[n.k:]
		if l, e := Encode(n.k, n.m, data); e != api.OK || !slices.Equal(l, want) {
			t.Fatalf("%v: Encode(%q): %q %d, not %q", n, data, l, e, want)
		}
	}
}

func TestEncodeSumsByTheRowsOfTable(t *testing.T) {
	var every strings.Builder
	for x := range 256 {
		every.WriteByte(byte(x))
	}
	noughts := strings.Repeat("\x00", 256)
	for _, n := range []size{{1, 1}, {2, 1}, {3, 5}, {10, 4}, {31, 1}, {16, 16}, {1, 31}} {
		table, _ := Table(n.k, n.m)
		for c := range n.k {
			data := slices.Repeat([]string{noughts}, n.k)
			data[c] = every.String()
			l, e := Encode(n.k, n.m, data)
			if e != api.OK || len(l) != n.m {
				t.Fatalf("%v: %q %d", n, l, e)
			}
			for i, s := range l {
				for x := range 256 {
					if want := field.Mul(table[n.k+i][c], byte(x)); len(s) != 256 || s[x] != want {
						t.Fatalf("%v: the shard %d besides, of the data %d: %q", n, i, c, s)
					}
				}
			}
		}
	}
}

// What stands at one place hangs on nothing at another.
func TestEncodeGoesPlaceByPlace(t *testing.T) {
	g := rand.New(rand.NewSource(2))
	for _, long := range []int{1, 2, 16, 255, 256, 257, 600} {
		data := random(g, 10, long)
		l, e := Encode(10, 4, data)
		if e != api.OK || len(l) != 4 {
			t.Fatalf("%d %d", len(l), e)
		}
		for at := range long {
			one := make([]string, 10)
			for i := range one {
				one[i] = data[i][at : at+1]
			}
			part, e := Encode(10, 4, one)
			if e != api.OK || len(part) != 4 {
				t.Fatalf("%d %d", len(part), e)
			}
			for i := range l {
				if len(l[i]) != long || l[i][at:at+1] != part[i] {
					t.Fatalf("of %d bytes, the shard %d at %d: %q, not %q", long, i, at, l[i], part[i])
				}
			}
		}
	}
}

func TestEncodeRefuses(t *testing.T) {
	for _, x := range []struct {
		n    size
		data []string
		want api.Errno
	}{
		{size{0, 1}, nil, api.ErrArg}, {size{2, -1}, []string{"a", "b"}, api.ErrArg}, {size{0, 0}, nil, api.ErrArg}, {size{-1, 2}, nil, api.ErrArg},
		{size{30, 3}, make([]string, 30), api.ErrArg}, {size{33, 0}, make([]string, 33), api.ErrArg}, {size{1, 32}, []string{"a"}, api.ErrArg},
		{size{2, 1}, nil, api.ErrFew}, {size{2, 1}, []string{"a"}, api.ErrFew}, {size{2, 1}, []string{"a", "b", "c"}, api.ErrFew}, {size{1, 0}, nil, api.ErrFew},
		{size{1, 0}, []string{"a", "b"}, api.ErrFew}, {size{10, 4}, make([]string, 9), api.ErrFew}, {size{10, 4}, make([]string, 11), api.ErrFew}, {size{10, 4}, make([]string, 14), api.ErrFew},
		{size{2, 1}, []string{"a", "bc"}, api.ErrForm}, {size{2, 1}, []string{"ab", "c"}, api.ErrForm}, {size{2, 1}, []string{"", "c"}, api.ErrForm}, {size{2, 1}, []string{"a", ""}, api.ErrForm},
		{size{2, 0}, []string{"a", ""}, api.ErrForm}, {size{3, 0}, []string{"", "", "a"}, api.ErrForm}, {size{3, 1}, []string{"ab", "c", "de"}, api.ErrForm},
		// Several apply: the first one counts.
		{size{0, 1}, []string{"a", "bc"}, api.ErrArg}, {size{2, 31}, []string{"a", "bc", "d"}, api.ErrArg}, {size{32, 1}, []string{"a", "bc"}, api.ErrArg},
		{size{3, 1}, []string{"a", "bc"}, api.ErrFew}, {size{2, 1}, []string{"a", "bc", "d"}, api.ErrFew},
	} {
		if l, e := Encode(x.n.k, x.n.m, x.data); l != nil || e != x.want {
			t.Errorf("%v: Encode(%q): %q %d, not %d", x.n, x.data, l, e, x.want)
		}
	}
	for _, n := range wrong() {
		for _, data := range [][]string{nil, {"a"}, {"a", "b"}, {"a", "bc"}, make([]string, 32), make([]string, 33)} {
			if l, e := Encode(n.k, n.m, data); l != nil || e != api.ErrArg {
				t.Errorf("%v: Encode(%q): %q %d", n, data, l, e)
			}
		}
	}
}

func TestEncodeOfOneShardThatIsntAsLong(t *testing.T) {
	for _, n := range []size{{2, 0}, {2, 1}, {10, 4}, {32, 0}} {
		for i := range n.k {
			for _, other := range []string{"", "ab", "abcd", strings.Repeat("a", 259)} {
				data := slices.Repeat([]string{"abc"}, n.k)
				data[i] = other
				if l, e := Encode(n.k, n.m, data); l != nil || e != api.ErrForm {
					t.Errorf("%v: the shard %d of %d bytes: %q %d", n, i, len(other), l, e)
				}
			}
		}
	}
}

// P5.3

func TestRebuildExamples(t *testing.T) {
	for _, x := range []struct {
		n    size
		have []api.Piece
		want []string
	}{
		{size{2, 1}, []api.Piece{{Idx: 0, Bytes: "\x01"}, {Idx: 1, Bytes: "\x01"}}, []string{"\x01", "\x01", "\x01"}},
		{size{2, 1}, []api.Piece{{Idx: 0, Bytes: "\x01"}, {Idx: 2, Bytes: "\x03"}}, []string{"\x01", "\x00", "\x03"}},
		{size{2, 1}, []api.Piece{{Idx: 2, Bytes: "\x02"}, {Idx: 1, Bytes: "\x01"}}, []string{"\x00", "\x01", "\x02"}},
		{size{1, 0}, []api.Piece{{Idx: 0, Bytes: "abc"}}, []string{"abc"}},
		{size{1, 2}, []api.Piece{{Idx: 2, Bytes: "abc"}}, []string{"abc", "abc", "abc"}},
		{size{3, 1}, []api.Piece{{Idx: 3, Bytes: "\x07"}, {Idx: 0, Bytes: "\x01"}, {Idx: 2, Bytes: "\x04"}}, []string{"\x01", "\x02", "\x04", "\x07"}},
		{size{2, 0}, []api.Piece{{Idx: 1, Bytes: "b"}, {Idx: 0, Bytes: "a"}}, []string{"a", "b"}},
		{size{2, 1}, []api.Piece{{Idx: 1, Bytes: ""}, {Idx: 2, Bytes: ""}}, []string{"", "", ""}},
		// More than k: those of the least numbers count, whatever the others say.
		{size{2, 1}, []api.Piece{{Idx: 2, Bytes: "\x09"}, {Idx: 1, Bytes: "\x01"}, {Idx: 0, Bytes: "\x01"}}, []string{"\x01", "\x01", "\x01"}},
		{size{1, 2}, []api.Piece{{Idx: 2, Bytes: "x"}, {Idx: 1, Bytes: "y"}}, []string{"y", "y", "y"}},
		{size{1, 2}, []api.Piece{{Idx: 1, Bytes: "y"}, {Idx: 2, Bytes: "x"}, {Idx: 0, Bytes: "z"}}, []string{"z", "z", "z"}},
	} {
		if l, e := Rebuild(x.n.k, x.n.m, x.have); e != api.OK || !slices.Equal(l, x.want) {
			t.Errorf("%v: Rebuild(%s): %q %d, not %q", x.n, told(x.have), l, e, x.want)
		}
	}
}

// Any bytes are shards of some data: k pieces that nobody encoded tell all, too.
func TestRebuildOfAnyPieces(t *testing.T) {
	g := rand.New(rand.NewSource(3))
	for _, n := range sizes() {
		for range 3 {
			order := g.Perm(n.k + n.m)[:n.k+g.Intn(n.m+1)]
			bytes := random(g, len(order), 1+g.Intn(3))
			var have []api.Piece
			for i, idx := range order {
				have = append(have, api.Piece{Idx: idx, Bytes: bytes[i]})
			}
			rising := slices.Clone(have)
			slices.SortFunc(rising, func(a, b api.Piece) int { return a.Idx - b.Idx })
			want := allOf(n.k+n.m, rising[:n.k])
			l, e := Rebuild(n.k, n.m, have)
			if e != api.OK || !slices.Equal(l, want) {
				t.Fatalf("%v: Rebuild(%s): %q %d, not %q", n, told(have), l, e, want)
			}
			if rest, e := Encode(n.k, n.m, l[:n.k]); e != api.OK || !slices.Equal(rest, l[n.k:]) {
				t.Fatalf("%v: Encode of what was rebuilt: %q %d, not %q", n, rest, e, l[n.k:])
			}
		}
	}
}

func TestRebuildPassesOverOthersThanTheLeast(t *testing.T) {
	g := rand.New(rand.NewSource(4))
	for _, n := range []size{{1, 1}, {2, 3}, {10, 4}, {16, 16}} {
		all := encoded(t, n, random(g, n.k, 5))
		for missing := range n.m {
			// Without the first ones, all behind the least k are wrong.
			have := pieces(all)[missing:]
			for i := n.k; i < len(have); i++ {
				have[i].Bytes = random(g, 1, 5)[0]
			}
			g.Shuffle(len(have), func(i, j int) { have[i], have[j] = have[j], have[i] })
			if l, e := Rebuild(n.k, n.m, have); e != api.OK || !slices.Equal(l, all) {
				t.Errorf("%v, %d missing: %q %d, not %q", n, missing, l, e, all)
			}
		}
	}
}

func TestRebuildRefuses(t *testing.T) {
	a, b, c := api.Piece{Idx: 0, Bytes: "a"}, api.Piece{Idx: 1, Bytes: "b"}, api.Piece{Idx: 2, Bytes: "c"}
	for _, x := range []struct {
		n    size
		have []api.Piece
		want api.Errno
	}{
		{size{0, 1}, []api.Piece{a}, api.ErrArg}, {size{0, 0}, nil, api.ErrArg}, {size{2, -1}, []api.Piece{a, b}, api.ErrArg}, {size{32, 1}, nil, api.ErrArg},
		{size{2, 1}, []api.Piece{a, b, {Idx: 3, Bytes: "d"}}, api.ErrArg}, {size{2, 1}, []api.Piece{{Idx: -1, Bytes: "d"}, a, b}, api.ErrArg}, {size{2, 1}, []api.Piece{{Idx: 3, Bytes: "d"}, b}, api.ErrArg},
		{size{2, 1}, []api.Piece{a, {Idx: math.MaxInt, Bytes: "d"}}, api.ErrArg}, {size{2, 1}, []api.Piece{a, {Idx: math.MinInt, Bytes: "d"}}, api.ErrArg}, {size{2, 1}, []api.Piece{a, {Idx: 1 << 32, Bytes: "d"}}, api.ErrArg},
		{size{2, 1}, []api.Piece{a, {Idx: 256, Bytes: "d"}}, api.ErrArg}, {size{2, 1}, []api.Piece{a, {Idx: 32, Bytes: "d"}}, api.ErrArg}, {size{2, 1}, []api.Piece{a, {Idx: 31, Bytes: "d"}}, api.ErrArg}, {size{31, 1}, []api.Piece{{Idx: 32, Bytes: "d"}}, api.ErrArg},
		{size{2, 1}, []api.Piece{a, a}, api.ErrArg}, {size{2, 1}, []api.Piece{a, b, c, a}, api.ErrArg}, {size{2, 1}, []api.Piece{a, b, {Idx: 1, Bytes: "x"}}, api.ErrArg}, {size{2, 1}, []api.Piece{c, b, c}, api.ErrArg},
		{size{2, 1}, []api.Piece{{Idx: 0}, {Idx: 0}}, api.ErrArg},
		{size{2, 1}, nil, api.ErrFew}, {size{2, 1}, []api.Piece{}, api.ErrFew}, {size{2, 1}, []api.Piece{a}, api.ErrFew}, {size{2, 1}, []api.Piece{c}, api.ErrFew}, {size{1, 0}, nil, api.ErrFew}, {size{1, 31}, nil, api.ErrFew},
		{size{3, 1}, []api.Piece{a, b}, api.ErrFew}, {size{3, 0}, []api.Piece{a, c}, api.ErrFew},
		{size{2, 1}, []api.Piece{a, {Idx: 1, Bytes: ""}}, api.ErrForm}, {size{2, 1}, []api.Piece{{Idx: 1, Bytes: ""}, c}, api.ErrForm}, {size{2, 1}, []api.Piece{a, {Idx: 2, Bytes: "cc"}}, api.ErrForm},
		// One that isn't of the least k must have as many bytes, too.
		{size{2, 1}, []api.Piece{a, b, {Idx: 2, Bytes: "cc"}}, api.ErrForm}, {size{2, 1}, []api.Piece{{Idx: 2, Bytes: ""}, b, a}, api.ErrForm}, {size{1, 2}, []api.Piece{a, {Idx: 2, Bytes: "cc"}}, api.ErrForm},
		// Several apply: the first one counts.
		{size{2, 31}, []api.Piece{a}, api.ErrArg}, {size{0, 2}, []api.Piece{a, {Idx: 1, Bytes: "bb"}}, api.ErrArg}, {size{3, 1}, []api.Piece{a, a}, api.ErrArg}, {size{3, 1}, []api.Piece{a, {Idx: 4, Bytes: ""}}, api.ErrArg},
		{size{2, 1}, []api.Piece{a, {Idx: 1, Bytes: "bb"}, {Idx: 3, Bytes: "d"}}, api.ErrArg}, {size{2, 1}, []api.Piece{a, {Idx: 0, Bytes: "bb"}}, api.ErrArg}, {size{2, 1}, []api.Piece{{Idx: 3}}, api.ErrArg}, {size{2, 1}, []api.Piece{{Idx: -1}}, api.ErrArg},
		{size{3, 1}, []api.Piece{a, {Idx: 1, Bytes: "bb"}}, api.ErrFew}, {size{3, 1}, []api.Piece{{Idx: 3, Bytes: ""}, b}, api.ErrFew},
	} {
		if l, e := Rebuild(x.n.k, x.n.m, x.have); l != nil || e != x.want {
			t.Errorf("%v: Rebuild(%s): %q %d, not %d", x.n, told(x.have), l, e, x.want)
		}
	}
	for _, n := range wrong() {
		for _, have := range [][]api.Piece{nil, {a}, {a, b}, {a, a}, {{Idx: 1, Bytes: "bb"}, a}, {{Idx: -1}}, pieces(make([]string, 32)), pieces(make([]string, 33))} {
			if l, e := Rebuild(n.k, n.m, have); l != nil || e != api.ErrArg {
				t.Errorf("%v: Rebuild(%s): %q %d", n, told(have), l, e)
			}
		}
	}
}

func TestRebuildKnowsEachNumber(t *testing.T) {
	for _, n := range sizes() {
		all := pieces(slices.Repeat([]string{"abc"}, n.k+n.m))
		for i := range all {
			for _, idx := range []int{-1, n.k + n.m, i + 256, i - 256, i + 1<<32, (i + 1) % (n.k + n.m)} {
				if idx == i {
					continue
				}
				have := slices.Clone(all)
				have[i].Idx = idx
				if l, e := Rebuild(n.k, n.m, have); l != nil || e != api.ErrArg {
					t.Fatalf("%v: %d in place of %d: %q %d", n, idx, i, l, e)
				}
			}
			have := slices.Clone(all)
			have[i].Bytes = "ab"
			if l, e := Rebuild(n.k, n.m, have); n.k+n.m > 1 && (l != nil || e != api.ErrForm) {
				t.Fatalf("%v: %d of fewer bytes: %q %d", n, i, l, e)
			}
		}
		for many := range n.k {
			if l, e := Rebuild(n.k, n.m, all[n.k+n.m-many:]); l != nil || e != api.ErrFew {
				t.Fatalf("%v: the last %d: %q %d", n, many, l, e)
			}
		}
	}
}

func TestFitsExamples(t *testing.T) {
	for _, x := range []struct {
		n    size
		all  []string
		want bool
	}{
		{size{2, 1}, []string{"\x01", "\x01", "\x01"}, true}, {size{2, 1}, []string{"\x01", "\x00", "\x03"}, true}, {size{2, 1}, []string{"\x00", "\x01", "\x03"}, false},
		{size{2, 1}, []string{"", "", ""}, true}, {size{1, 0}, []string{"abc"}, true}, {size{1, 2}, []string{"a", "a", "a"}, true}, {size{1, 2}, []string{"a", "a", "b"}, false}, {size{1, 2}, []string{"a", "b", "a"}, false},
		{size{3, 0}, []string{"a", "b", "c"}, true}, {size{3, 0}, []string{"", "", ""}, true}, {size{3, 0}, []string{"a", "b", ""}, false}, {size{3, 0}, []string{"a", "bb", "c"}, false},
		// Not as many shards.
		{size{2, 1}, nil, false}, {size{2, 1}, []string{"\x01", "\x01"}, false}, {size{2, 1}, []string{"\x01", "\x01", "\x01", "\x01"}, false}, {size{1, 0}, nil, false}, {size{1, 0}, []string{"a", "a"}, false}, {size{1, 2}, []string{"a", "a"}, false},
		{size{3, 0}, []string{"a", "b"}, false}, {size{3, 0}, []string{"a", "b", "c", "d"}, false},
		// Not as many bytes.
		{size{2, 1}, []string{"\x01", "\x01", "\x01\x00"}, false}, {size{2, 1}, []string{"\x01", "\x01", ""}, false}, {size{2, 1}, []string{"\x00", "", "\x00"}, false}, {size{2, 1}, []string{"", "", "\x00"}, false}, {size{1, 1}, []string{"a", ""}, false},
		// k and m that may not be.
		{size{0, 0}, nil, false}, {size{0, 1}, []string{"a"}, false}, {size{2, -1}, []string{"a"}, false}, {size{2, -2}, nil, false}, {size{-1, 2}, []string{"a"}, false}, {size{-1, 1}, nil, false}, {size{33, 0}, make([]string, 33), false}, {size{1, 32}, make([]string, 33), false}, {size{0, 32}, make([]string, 32), false}, {size{33, -1}, make([]string, 32), false},
	} {
		if v := Fits(x.n.k, x.n.m, x.all); v != x.want {
			t.Errorf("%v: Fits(%q): %t", x.n, x.all, v)
		}
	}
	for _, n := range wrong() {
		for _, many := range []int{0, 1, 2, 31, 32, 33, 64} {
			if Fits(n.k, n.m, make([]string, many)) {
				t.Errorf("%v: Fits of %d", n, many)
			}
		}
	}
}

func TestFitsTellsEachBit(t *testing.T) {
	g := rand.New(rand.NewSource(5))
	for _, n := range []size{{1, 1}, {2, 1}, {2, 3}, {10, 4}, {31, 1}, {1, 31}} {
		all := encoded(t, n, random(g, n.k, 3))
		if !Fits(n.k, n.m, all) {
			t.Errorf("%v: %q don't fit", n, all)
		}
		for i, s := range all {
			for place := range 24 {
				all[i] = flipped(s, place/8, place%8)
				if Fits(n.k, n.m, all) {
					t.Errorf("%v: %q fit, with another bit at %d of %d", n, all, place, i)
				}
			}
			for _, other := range []string{s + "\x00", "\x00" + s, s[:2], s[1:], ""} {
				all[i] = other
				if Fits(n.k, n.m, all) {
					t.Errorf("%v: %q fit, though %d isn't as long", n, all, i)
				}
			}
			all[i] = s
		}
	}
}

func TestFitsOfEachSize(t *testing.T) {
	g := rand.New(rand.NewSource(6))
	for _, n := range sizes() {
		all := allOf(n.k+n.m, pieces(random(g, n.k, 2)))
		if !Fits(n.k, n.m, all) {
			t.Fatalf("%v: %q don't fit", n, all)
		}
		if Fits(n.k, n.m, append(slices.Clone(all), all[0])) || Fits(n.k, n.m, all[:n.k+n.m-1]) {
			t.Fatalf("%v: one more, or fewer, fit", n)
		}
		if n.m > 0 {
			all[n.k+g.Intn(n.m)] = random(g, 1, 3)[0]
		} else {
			all[g.Intn(n.k)] = random(g, 1, 3)[0]
		}
		if v := Fits(n.k, n.m, all); v != (n.k+n.m == 1) {
			t.Fatalf("%v: Fits(%q): %t", n, all, v)
		}
	}
}

// P5.4

// checkSubset rebuilds all of some of them.
func checkSubset(t *testing.T, n size, all []string, have []api.Piece) {
	t.Helper()
	if l, e := Rebuild(n.k, n.m, have); e != api.OK || !slices.Equal(l, all) {
		t.Fatalf("%v: Rebuild(%s): %q %d, not %q", n, told(have), l, e, all)
	}
}

func TestAnyShardsRebuildAll(t *testing.T) {
	g := rand.New(rand.NewSource(7))
	for _, n := range []size{{1, 4}, {2, 1}, {2, 6}, {3, 3}, {5, 4}, {9, 1}, {10, 4}, {4, 0}} {
		all := encoded(t, n, random(g, n.k, 2))
		for chosen := range uint32(1) << (n.k + n.m) {
			if bits.OnesCount32(chosen) != n.k {
				continue
			}
			var have []api.Piece
			for i, s := range all {
				if chosen>>i&1 == 1 {
					have = append(have, api.Piece{Idx: i, Bytes: s})
				}
			}
			g.Shuffle(len(have), func(i, j int) { have[i], have[j] = have[j], have[i] })
			checkSubset(t, n, all, have)
		}
	}
}

func TestAnyShardsOfEachSizeRebuildAll(t *testing.T) {
	g := rand.New(rand.NewSource(8))
	for _, n := range sizes() {
		all := encoded(t, n, random(g, n.k, g.Intn(3)))
		have := pieces(all)
		checkSubset(t, n, all, have)
		checkSubset(t, n, all, have[n.m:])
		slices.Reverse(have)
		checkSubset(t, n, all, have[:n.k])
		g.Shuffle(len(have), func(i, j int) { have[i], have[j] = have[j], have[i] })
		checkSubset(t, n, all, have[:n.k+g.Intn(n.m+1)])
	}
}

func TestShardsOfASumAreTheSums(t *testing.T) {
	g := rand.New(rand.NewSource(9))
	for _, n := range sizes() {
		a, b := random(g, n.k, 3), random(g, n.k, 3)
		both := make([]string, n.k)
		for i := range both {
			both[i] = sum(a[i], b[i])
		}
		allA, allB, all := encoded(t, n, a), encoded(t, n, b), encoded(t, n, both)
		for i := range all {
			if all[i] != sum(allA[i], allB[i]) {
				t.Fatalf("%v: the shard %d of the sum of %q and %q: %q", n, i, a, b, all[i])
			}
		}
		if !Fits(n.k, n.m, all) {
			t.Fatalf("%v: the sum's don't fit", n)
		}
	}
}

func TestLongShards(t *testing.T) {
	g := rand.New(rand.NewSource(10))
	n := size{10, 4}
	for _, long := range []int{16, 512, 1000, 1 << 16} {
		all := encoded(t, n, random(g, n.k, long))
		if !Fits(n.k, n.m, all) {
			t.Errorf("those of %d bytes don't fit", long)
		}
		if l, e := Rebuild(n.k, n.m, pieces(all)[n.m:]); e != api.OK || !slices.Equal(l, all) {
			t.Errorf("those of %d bytes aren't rebuilt: %d", long, e)
		}
	}
}

// R3 and R4: what is handed in stays as it is, what comes out is another's, and each call answers the same again.

func TestWhatIsHandedInStays(t *testing.T) {
	g := rand.New(rand.NewSource(11))
	for _, n := range []size{{1, 0}, {2, 1}, {10, 4}, {16, 16}} {
		// There is room behind what is handed in, and something in it.
		room := random(g, n.k+n.m+8, 4)
		copy(room, encoded(t, n, room[:n.k]))
		had, parts := slices.Clone(room), pieces(room)
		slices.Reverse(parts[:n.k+n.m])
		hadParts := slices.Clone(parts)
		for range 2 {
			if rest, e := Encode(n.k, n.m, room[:n.k]); e != api.OK || !slices.Equal(rest, had[n.k:n.k+n.m]) {
				t.Errorf("%v: Encode: %q %d", n, rest, e)
			}
			if l, e := Rebuild(n.k, n.m, parts[:n.k]); e != api.OK || !slices.Equal(l, had[:n.k+n.m]) {
				t.Errorf("%v: Rebuild: %q %d", n, l, e)
			}
			if !Fits(n.k, n.m, room[:n.k+n.m]) {
				t.Errorf("%v: Fits: false", n)
			}
			if !slices.Equal(room, had) || !slices.Equal(parts, hadParts) {
				t.Fatalf("%v: %q and %s, which were %q and %s", n, room, told(parts), had, told(hadParts))
			}
		}
	}
}

func TestWhatComesOutIsAnothers(t *testing.T) {
	for _, n := range []size{{1, 0}, {1, 3}, {2, 1}, {10, 4}, {32, 0}} {
		a, _ := Table(n.k, n.m)
		want, _ := Table(n.k, n.m)
		for r := range a {
			for c := range a[r] {
				a[r][c] ^= 255
			}
			_ = append(a[r], 1, 2, 3)
			for other := range a {
				for c := range a[other] {
					if a[other][c] != want[other][c]^255 && other <= r || a[other][c] != want[other][c] && other > r {
						t.Fatalf("%v: the row %d isn't alone", n, r)
					}
				}
			}
		}
		if again, e := Table(n.k, n.m); e != api.OK || !sameRows(again, want) {
			t.Errorf("%v: Table: %v %d, not %v", n, again, e, want)
		}
		data := slices.Repeat([]string{"abc"}, n.k)
		all, _ := Rebuild(n.k, n.m, pieces(data))
		for i := range all {
			all[i] = "x"
		}
		if !slices.Equal(data, slices.Repeat([]string{"abc"}, n.k)) {
			t.Errorf("%v: %q", n, data)
		}
	}
}
