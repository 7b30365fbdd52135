package block

import (
	"math"
	"math/rand"
	"slices"
	"strconv"
	"strings"
	"testing"

	"hogshead/api"
)

// Numbers of pieces that may not be: about the bounds, far from them, and such as are in bounds in fewer bits. They rise, and a test stops at the first that is taken: the greatest would ask for much memory.
var wrongCounts = []int{math.MinInt, math.MinInt + 1, math.MinInt + 32, math.MinInt32, -256, -33, -32, -31, -2, -1, 0, 33, 34, 63, 64, 65, 255, 256, 257, 256 + 32, 1<<16 + 1, math.MaxInt32, 1<<32 + 1, 1<<32 + 32, math.MaxInt - 1, math.MaxInt}

// Numbers that are below 0.
var below = []int{-1, -2, -3, -64, -256, math.MinInt32, math.MinInt + 1, math.MinInt}

// Numbers that are far above all lengths: some with a length, or with one another, go round.
var far = []int{1 << 16, 1 << 20, math.MaxInt32, 1 << 32, 1<<32 + 1, 1 << 62, math.MaxInt - 3, math.MaxInt - 2, math.MaxInt - 1, math.MaxInt}

// random is a text of n bytes, none of which is a nought (so that those behind it are seen).
func random(g *rand.Rand, n int) string {
	b := make([]byte, n)
	for i := range b {
		b[i] = byte(1 + g.Intn(255))
	}
	return string(b)
}

// noughts are n of them.
func noughts(n int) string { return strings.Repeat("\x00", n) }

// xored is the sum of two texts as long.
func xored(a, b string) string {
	var s strings.Builder
	for i := range len(a) {
		s.WriteByte(a[i] ^ b[i])
	}
	return s.String()
}

// cutInto are k pieces, by the document's words: the least size is looked for from 0 on.
func cutInto(s string, k int) []string {
	size := 0
	for size*k < len(s) {
		size++
	}
	var l []string
	for i := range k {
		var piece strings.Builder
		for at := i * size; at < (i+1)*size; at++ {
			if at < len(s) {
				piece.WriteByte(s[at])
			} else {
				piece.WriteByte(0)
			}
		}
		l = append(l, piece.String())
	}
	return l
}

// laid is what stands where, when part after part was laid, byte by byte.
func laid(size int, l []api.Part) string {
	at := map[int]byte{}
	for _, p := range l {
		for i := range len(p.Bytes) {
			at[p.Off+i] = p.Bytes[i]
		}
	}
	var s strings.Builder
	for i := range size {
		s.WriteByte(at[i])
	}
	return s.String()
}

// told are parts, to be read.
func told(l []api.Part) string {
	var s strings.Builder
	for _, p := range l {
		s.WriteString(" " + strconv.Itoa(p.Off) + " " + strconv.Quote(p.Bytes))
	}
	return s.String()
}

// P6.1

func TestSplitExamples(t *testing.T) {
	for _, x := range []struct {
		s    string
		k    int
		want []string
	}{
		{"abc", 2, []string{"ab", "c\x00"}},
		{"abc", 1, []string{"abc"}},
		{"abc", 3, []string{"a", "b", "c"}},
		{"abc", 4, []string{"a", "b", "c", "\x00"}},
		{"abcd", 2, []string{"ab", "cd"}},
		{"abcd", 3, []string{"ab", "cd", "\x00\x00"}},
		{"abcde", 3, []string{"ab", "cd", "e\x00"}},
		{"abcde", 4, []string{"ab", "cd", "e\x00", "\x00\x00"}},
		{"abcdefg", 3, []string{"abc", "def", "g\x00\x00"}},
		{"abcdefghijk", 5, []string{"abc", "def", "ghi", "jk\x00", "\x00\x00\x00"}},
		{"", 1, []string{""}},
		{"", 3, []string{"", "", ""}},
		{"", 32, slices.Repeat([]string{""}, 32)},
		{"a", 32, append([]string{"a"}, slices.Repeat([]string{"\x00"}, 31)...)},
		{"\x00", 1, []string{"\x00"}},
		{"a\x00", 1, []string{"a\x00"}},
		{"\x00a\xff", 2, []string{"\x00a", "\xff\x00"}},
		{"é", 2, []string{"\xc3", "\xa9"}},
		{strings.Repeat("a", 33), 32, append(append(slices.Repeat([]string{"aa"}, 16), "a\x00"), slices.Repeat([]string{"\x00\x00"}, 15)...)},
	} {
		if l, e := Split(x.s, x.k); e != api.OK || !slices.Equal(l, x.want) {
			t.Errorf("Split(%q, %d): %q %d, not %q", x.s, x.k, l, e, x.want)
		}
	}
}

func TestSplitOfEachLength(t *testing.T) {
	g := rand.New(rand.NewSource(1))
	for long := range 200 {
		s := random(g, long)
		for k := 1; k <= 32; k++ {
			if l, e := Split(s, k); e != api.OK || !slices.Equal(l, cutInto(s, k)) {
				t.Fatalf("Split(%q, %d): %q %d, not %q", s, k, l, e, cutInto(s, k))
			}
		}
	}
}

// The words of the promise, one by one.
func TestSplitHasRoomForAllAndNoMore(t *testing.T) {
	g := rand.New(rand.NewSource(2))
	for _, long := range []int{0, 1, 31, 32, 33, 159, 160, 161, 1000, 65535, 65536, 65537, 1 << 20} {
		s := random(g, long)
		for k := 1; k <= 32; k++ {
			l, e := Split(s, k)
			if e != api.OK || len(l) != k {
				t.Fatalf("%d bytes, %d pieces: %d %d", long, k, len(l), e)
			}
			size := len(l[0])
			for i, p := range l {
				if len(p) != size {
					t.Fatalf("%d bytes, %d pieces: %d in the first, %d in the piece %d", long, k, size, len(p), i)
				}
			}
			if size*k < long || size > 0 && (size-1)*k >= long {
				t.Fatalf("%d bytes, %d pieces: of %d bytes each", long, k, size)
			}
			if strings.Join(l, "") != s+noughts(size*k-long) {
				t.Fatalf("%d bytes, %d pieces: they aren't the bytes and noughts", long, k)
			}
		}
	}
}

func TestSplitRefuses(t *testing.T) {
	for _, k := range wrongCounts {
		for _, s := range []string{"", "a", "abc", strings.Repeat("a", 64)} {
			if l, e := Split(s, k); l != nil || e != api.ErrArg {
				t.Fatalf("Split(%q, %d): %q %d", s, k, l, e)
			}
		}
	}
}

func TestJoinExamples(t *testing.T) {
	for _, x := range []struct {
		l    []string
		n    int
		want string
	}{
		{[]string{"ab", "c\x00"}, 3, "abc"},
		{[]string{"ab", "c\x00"}, 4, "abc\x00"},
		{[]string{"ab", "c\x00"}, 2, "ab"},
		{[]string{"ab", "c\x00"}, 1, "a"},
		{[]string{"ab", "c\x00"}, 0, ""},
		{nil, 0, ""},
		{[]string{}, 0, ""},
		{[]string{""}, 0, ""},
		{[]string{"", "", ""}, 0, ""},
		{[]string{"abc"}, 3, "abc"},
		// Pieces that haven't as many bytes, and more of them than a content is cut into.
		{[]string{"", "a", "", "bcd", "", "ef", ""}, 6, "abcdef"},
		{[]string{"", "a", "", "bcd", "", "ef", ""}, 3, "abc"},
		{slices.Repeat([]string{"ab"}, 33), 65, strings.Repeat("ab", 32) + "a"},
		{slices.Repeat([]string{"ab"}, 100), 200, strings.Repeat("ab", 100)},
		{[]string{"\xc3", "\xa9"}, 2, "é"},
		{[]string{"\xff\x00", "\x00\xff"}, 4, "\xff\x00\x00\xff"},
	} {
		if s, e := Join(x.l, x.n); e != api.OK || s != x.want {
			t.Errorf("Join(%q, %d): %q %d, not %q", x.l, x.n, s, e, x.want)
		}
	}
}

func TestJoinOfEachNumberOfBytes(t *testing.T) {
	g := rand.New(rand.NewSource(3))
	for range 300 {
		l := make([]string, g.Intn(8))
		for i := range l {
			l[i] = random(g, g.Intn(6))
		}
		all := strings.Join(l, "")
		for n := range len(all) + 1 {
			if s, e := Join(l, n); e != api.OK || s != all[:n] {
				t.Fatalf("Join(%q, %d): %q %d", l, n, s, e)
			}
		}
		for n := len(all) + 1; n < len(all)+40; n++ {
			if s, e := Join(l, n); s != "" || e != api.ErrArg {
				t.Fatalf("Join(%q, %d): %q %d", l, n, s, e)
			}
		}
	}
}

func TestJoinRefuses(t *testing.T) {
	for _, l := range [][]string{nil, {}, {""}, {"", ""}, {"a"}, {"ab", "c"}, {"", "abc", ""}, slices.Repeat([]string{"abc"}, 32)} {
		for _, n := range slices.Concat(below, far, []int{len(strings.Join(l, "")) + 1}) {
			if s, e := Join(l, n); s != "" || e != api.ErrArg {
				t.Fatalf("Join(%q, %d): %q %d", l, n, s, e)
			}
		}
	}
}

// P6.2

func TestXorExamples(t *testing.T) {
	for _, x := range []struct{ a, b, want string }{
		{"\x05a", "\x03a", "\x06\x00"},
		{"", "", ""},
		{"a", "\x00", "a"},
		{"\x00", "a", "a"},
		{"abc", "abc", "\x00\x00\x00"},
		{"\xff\x00\xf0", "\x0f\x00\xff", "\xf0\x00\x0f"},
		{"\x80", "\x01", "\x81"},
	} {
		if s, e := Xor(x.a, x.b); e != api.OK || s != x.want {
			t.Errorf("Xor(%q, %q): %q %d, not %q", x.a, x.b, s, e, x.want)
		}
	}
}

func TestXorOfAllBytes(t *testing.T) {
	var a, b strings.Builder
	for x := range 256 {
		for y := range 256 {
			a.WriteByte(byte(x))
			b.WriteByte(byte(y))
		}
	}
	s, e := Xor(a.String(), b.String())
	if e != api.OK || len(s) != 1<<16 {
		t.Fatal(len(s), e)
	}
	for at := range len(s) {
		// A bit is 1, where just one of both is.
		for bit := range 8 {
			x, y := at>>8>>bit&1, at>>bit&1
			if one := s[at]>>bit&1 == 1; one != (x+y == 1) {
				t.Fatalf("%02x of %02x and %02x", s[at], at>>8, at&255)
			}
		}
	}
}

func TestXorOfEachLength(t *testing.T) {
	g := rand.New(rand.NewSource(4))
	for _, long := range []int{0, 1, 2, 7, 8, 9, 15, 16, 17, 63, 64, 65, 159, 160, 161, 65535, 65536, 65537, 1 << 20} {
		a, b := random(g, long), random(g, long)
		if s, e := Xor(a, b); e != api.OK || s != xored(a, b) {
			t.Errorf("of %d bytes: %d", long, e)
		}
	}
}

func TestXorRefuses(t *testing.T) {
	for m := range 20 {
		for n := range 20 {
			s, e := Xor(strings.Repeat("a", m), strings.Repeat("b", n))
			if m != n && (s != "" || e != api.ErrForm) {
				t.Errorf("Xor of %d bytes and %d: %q %d", m, n, s, e)
			}
		}
	}
	for _, n := range []int{0, 1, 159, 161, 416, 160 + 1<<16} {
		if s, e := Xor(noughts(160), noughts(n)); s != "" || e != api.ErrForm {
			t.Errorf("Xor of 160 bytes and %d: %q %d", n, s, e)
		}
		if s, e := Xor(noughts(n), noughts(160)); s != "" || e != api.ErrForm {
			t.Errorf("Xor of %d bytes and 160: %q %d", n, s, e)
		}
	}
}

func TestLayExamples(t *testing.T) {
	for _, x := range []struct {
		size int
		l    []api.Part
		want string
	}{
		{4, []api.Part{{Off: 2, Bytes: "x"}}, "\x00\x00x\x00"},
		{4, nil, "\x00\x00\x00\x00"},
		{4, []api.Part{{Off: 0, Bytes: "abcd"}}, "abcd"},
		{4, []api.Part{{Off: 3, Bytes: "x"}}, "\x00\x00\x00x"},
		{4, []api.Part{{Off: 0, Bytes: ""}, {Off: 2, Bytes: ""}, {Off: 4, Bytes: ""}}, "\x00\x00\x00\x00"},
		{0, nil, ""},
		{0, []api.Part{{Off: 0, Bytes: ""}, {}}, ""},
		// A part may lie on others: the later one is seen.
		{4, []api.Part{{Off: 2, Bytes: "xy"}, {Off: 1, Bytes: "z"}, {Off: 2, Bytes: "w"}}, "\x00zwy"},
		{4, []api.Part{{Off: 0, Bytes: "abcd"}, {Off: 1, Bytes: "\x00\x00"}}, "a\x00\x00d"},
		{4, []api.Part{{Off: 1, Bytes: "xy"}, {Off: 0, Bytes: "abc"}}, "abc\x00"},
		{4, []api.Part{{Off: 0, Bytes: "abc"}, {Off: 1, Bytes: "xyz"}, {Off: 0, Bytes: "uv"}}, "uvyz"},
		{3, []api.Part{{Off: 0, Bytes: "x"}, {Off: 0, Bytes: "y"}, {Off: 0, Bytes: ""}}, "y\x00\x00"},
		{4, []api.Part{{Off: 1, Bytes: "é"}}, "\x00\xc3\xa9\x00"},
	} {
		if s, e := Lay(x.size, x.l); e != api.OK || s != x.want {
			t.Errorf("Lay(%d,%s): %q %d, not %q", x.size, told(x.l), s, e, x.want)
		}
	}
}

func TestLayOfEachSize(t *testing.T) {
	for _, size := range []int{0, 1, 2, 159, 160, 161, 65534, 65535, 65536} {
		if s, e := Lay(size, nil); e != api.OK || s != noughts(size) {
			t.Errorf("Lay(%d): %d bytes, %d", size, len(s), e)
		}
		whole := strings.Repeat("a", size)
		if s, e := Lay(size, []api.Part{{Bytes: whole}}); e != api.OK || s != whole {
			t.Errorf("Lay(%d) of all: %d bytes, %d", size, len(s), e)
		}
		if s, e := Lay(size, []api.Part{{Bytes: whole + "a"}}); s != "" || e != api.ErrArg {
			t.Fatalf("Lay(%d) of one more: %d bytes, %d", size, len(s), e)
		}
	}
	for _, size := range slices.Concat(below, []int{65537, 65538, 1 << 17, 1 << 20}, far[1:]) {
		for _, l := range [][]api.Part{nil, {}, {{}}, {{Bytes: "a"}}, {{Off: -1}}, {{Off: size - 1, Bytes: "a"}}} {
			if s, e := Lay(size, l); s != "" || e != api.ErrArg {
				t.Fatalf("Lay(%d,%s): %d bytes, %d", size, told(l), len(s), e)
			}
		}
	}
}

func TestLayOfParts(t *testing.T) {
	g := rand.New(rand.NewSource(5))
	for range 3000 {
		size := g.Intn(24)
		l := make([]api.Part, g.Intn(6))
		for i := range l {
			off := g.Intn(size + 1)
			l[i] = api.Part{Off: off, Bytes: random(g, g.Intn(size-off+1))}
		}
		if s, e := Lay(size, l); e != api.OK || s != laid(size, l) {
			t.Fatalf("Lay(%d,%s): %q %d, not %q", size, told(l), s, e, laid(size, l))
		}
	}
}

// Each part of each place, of few bytes.
func TestLayOfAPartThatHasNoRoom(t *testing.T) {
	good := []api.Part{{Off: 0, Bytes: "a"}, {Off: 1, Bytes: "b"}}
	for size := 2; size < 8; size++ {
		for _, off := range slices.Concat([]int{0, 1, 2, 3, 4, 5, 6, 7, 8, 9}, below, far) {
			for long := range 10 {
				one := api.Part{Off: off, Bytes: strings.Repeat("x", long)}
				// No bytes too, if their place is behind the end, or ahead of the beginning.
				room := off >= 0 && off <= size && off+long <= size
				for at := range len(good) + 1 {
					l := slices.Insert(slices.Clone(good), at, one)
					s, e := Lay(size, l)
					if room && (e != api.OK || s != laid(size, l)) || !room && (s != "" || e != api.ErrArg) {
						t.Fatalf("Lay(%d,%s): %q %d", size, told(l), s, e)
					}
				}
			}
		}
	}
}

func TestCutExamples(t *testing.T) {
	for _, x := range []struct {
		s      string
		off, n int
		want   string
	}{
		{"abcd", 1, 2, "bc"}, {"abcd", 0, 4, "abcd"}, {"abcd", 0, 0, ""}, {"abcd", 2, 0, ""}, {"abcd", 4, 0, ""}, {"abcd", 3, 1, "d"}, {"abcd", 0, 1, "a"}, {"abcd", 2, 2, "cd"},
		{"", 0, 0, ""}, {"aé", 2, 1, "\xa9"}, {"\x00a\x00", 0, 3, "\x00a\x00"},
	} {
		if s, e := Cut(x.s, x.off, x.n); e != api.OK || s != x.want {
			t.Errorf("Cut(%q, %d, %d): %q %d, not %q", x.s, x.off, x.n, s, e, x.want)
		}
	}
}

func TestCutOfEachPlace(t *testing.T) {
	const all = "abcdefgh"
	for long := range len(all) + 1 {
		s := all[:long]
		for _, off := range slices.Concat([]int{0, 1, 2, 3, 4, 5, 6, 7, 8, 9, 10}, below, far) {
			for _, n := range slices.Concat([]int{0, 1, 2, 3, 4, 5, 6, 7, 8, 9, 10}, below, far) {
				want, wantE := "", api.ErrArg
				// None of both is above the length here, so that their sum can't go round.
				if off >= 0 && n >= 0 && off <= long && n <= long && off+n <= long {
					want, wantE = s[off:off+n], api.OK
				}
				if c, e := Cut(s, off, n); c != want || e != wantE {
					t.Fatalf("Cut(%q, %d, %d): %q %d, not %q %d", s, off, n, c, e, want, wantE)
				}
			}
		}
	}
}

func TestCutOfAContentOfAnyLength(t *testing.T) {
	s := random(rand.New(rand.NewSource(6)), 1<<17)
	for _, off := range []int{0, 1, 65535, 65536, 65537, 1<<17 - 1, 1 << 17} {
		n := 1<<17 - off
		if c, e := Cut(s, off, n); e != api.OK || c != s[off:] {
			t.Errorf("from %d on: %d bytes, %d", off, len(c), e)
		}
		if c, e := Cut(s, off, n+1); c != "" || e != api.ErrArg {
			t.Errorf("from %d on, one more: %d bytes, %d", off, len(c), e)
		}
	}
}

// P6.3

func TestWhatWasSplitIsJoinedAsItWas(t *testing.T) {
	g := rand.New(rand.NewSource(7))
	for long := range 200 {
		// One with noughts at its end, too: they are not those behind it.
		for _, s := range []string{random(g, long), noughts(long), random(g, long/2) + noughts(long-long/2)} {
			for k := 1; k <= 32; k++ {
				l, e := Split(s, k)
				if e != api.OK {
					t.Fatalf("Split(%q, %d): %d", s, k, e)
				}
				if back, e := Join(l, long); e != api.OK || back != s {
					t.Fatalf("Join(%q, %d): %q %d", l, long, back, e)
				}
			}
		}
	}
}

func TestXorTwiceChangesNothing(t *testing.T) {
	g := rand.New(rand.NewSource(8))
	for _, long := range []int{0, 1, 2, 16, 160, 1000, 65536} {
		a, b := random(g, long), random(g, long)
		once, e := Xor(a, b)
		if e != api.OK || long > 8 && once == a {
			t.Fatalf("of %d bytes: %d", long, e)
		}
		if twice, e := Xor(once, b); e != api.OK || twice != a {
			t.Errorf("of %d bytes, twice: %d", long, e)
		}
		// What is twice the same is noughts.
		none, e := Xor(b, b)
		if e != api.OK || none != noughts(long) {
			t.Errorf("of %d bytes with themselves: %d", long, e)
		}
		if same, e := Xor(a, none); e != api.OK || same != a {
			t.Errorf("of %d bytes and noughts: %d", long, e)
		}
	}
}

func TestXorOfPiecesIsThePiecesOfTheXor(t *testing.T) {
	g := rand.New(rand.NewSource(9))
	for long := range 170 {
		a, b := random(g, long), random(g, long)
		both, e := Xor(a, b)
		if e != api.OK {
			t.Fatal(e)
		}
		for k := 1; k <= 32; k++ {
			ofA, _ := Split(a, k)
			ofB, _ := Split(b, k)
			of, e := Split(both, k)
			if e != api.OK || len(of) != k || len(ofA) != k || len(ofB) != k {
				t.Fatalf("%d bytes, %d pieces: %d, %d, %d", long, k, len(of), len(ofA), len(ofB))
			}
			for i := range k {
				if s, e := Xor(ofA[i], ofB[i]); e != api.OK || s != of[i] {
					t.Fatalf("%d bytes, %d pieces, at %d: %q %d, not %q", long, k, i, s, e, of[i])
				}
			}
		}
	}
}

func TestWhatWasLaidLastIsCutOutAsItWas(t *testing.T) {
	g := rand.New(rand.NewSource(10))
	for range 3000 {
		size := []int{g.Intn(20), 160, 1000}[g.Intn(3)]
		l := make([]api.Part, 1+g.Intn(6))
		for i := range l {
			off := g.Intn(size + 1)
			l[i] = api.Part{Off: off, Bytes: random(g, g.Intn(size-off+1))}
		}
		last := l[len(l)-1]
		s, e := Lay(size, l)
		if e != api.OK {
			t.Fatalf("Lay(%d,%s): %d", size, told(l), e)
		}
		if c, e := Cut(s, last.Off, len(last.Bytes)); e != api.OK || c != last.Bytes {
			t.Fatalf("of Lay(%d,%s): %q %d", size, told(l), c, e)
		}
	}
}

// R3 and R4: what is handed in stays as it is, what comes out is another's, and each call answers the same again.

func TestWhatIsHandedInStays(t *testing.T) {
	// There is room behind what is handed in, and something in it.
	pieces := []string{"abc", "de", "", "f", "behind", "it"}
	parts := []api.Part{{Off: 2, Bytes: "xy"}, {Off: 0, Bytes: "abc"}, {Off: 5, Bytes: "z"}, {Off: 1, Bytes: "behind"}}
	hadPieces, hadParts := slices.Clone(pieces), slices.Clone(parts)
	for range 3 {
		if s, e := Join(pieces[:4], 5); s != "abcde" || e != api.OK {
			t.Errorf("Join: %q %d", s, e)
		}
		if s, e := Lay(7, parts[:3]); s != "abcy\x00z\x00" || e != api.OK {
			t.Errorf("Lay: %q %d", s, e)
		}
		if _, e := Join(pieces[:4], 7); e != api.ErrArg {
			t.Errorf("Join of too many: %d", e)
		}
		if _, e := Lay(5, parts[:3]); e != api.ErrArg {
			t.Errorf("Lay of too few: %d", e)
		}
		if !slices.Equal(pieces, hadPieces) || !slices.Equal(parts, hadParts) {
			t.Fatalf("%q and%s, which were %q and%s", pieces, told(parts), hadPieces, told(hadParts))
		}
	}
}

func TestWhatComesOutIsAnothers(t *testing.T) {
	const s = "abcdefg"
	want := []string{"abc", "def", "g\x00\x00"}
	first, _ := Split(s, 3)
	second, _ := Split(s, 3)
	for i := range first {
		first[i] = "x"
	}
	if !slices.Equal(second, want) {
		t.Errorf("%q, not %q", second, want)
	}
	if again, e := Split(s, 3); e != api.OK || !slices.Equal(again, want) {
		t.Errorf("%q %d, not %q", again, e, want)
	}
	// Others, told in between, leave what was told as it was.
	joined, _ := Join(want, 7)
	both, _ := Xor("abc", "\x01\x01\x01")
	content, _ := Lay(4, []api.Part{{Off: 1, Bytes: "ab"}})
	part, _ := Cut(content, 1, 2)
	Join([]string{"vwxyz", "vwxyz"}, 7)
	Xor("xyz", "xyz")
	Lay(4, []api.Part{{Off: 0, Bytes: "wxyz"}})
	if joined != s || both != "`cb" || content != "\x00ab\x00" || part != "ab" {
		t.Errorf("%q %q %q %q", joined, both, content, part)
	}
}
