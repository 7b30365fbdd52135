package vlq

import (
	"math"
	"math/big"
	"math/rand"
	"slices"
	"strings"
	"testing"

	"hogshead/api"
)

// numbers: small ones, and those about each power of two.
func numbers() []uint64 {
	l := []uint64{math.MaxUint64}
	for v := range uint64(70000) {
		l = append(l, v)
	}
	for i := range 64 {
		p := uint64(1) << i
		l = append(l, p-1, p, p+1, p|p>>3, ^p)
	}
	return l
}

// texts: those whose length is about an edge, and whose bytes are of all kinds.
func texts() []string {
	every := ""
	for i := range 256 {
		every += string([]byte{byte(i)})
	}
	l := []string{"", "a", "\x00", "\x80", "\xff", "\x81\x00", "wörter", every}
	for _, n := range []int{126, 127, 128, 129, 16383, 16384, api.MaxText} {
		l = append(l, strings.Repeat("x", n))
	}
	return l
}

// rows: rows of texts, that of no text among them.
func rows() [][]string {
	l := [][]string{nil, {}, {""}, {"", ""}, {"a"}, {"a", "", "bc"}, {"\x00", "\x80\x80", "\x01a"}, texts()}
	for _, n := range []int{127, 128, 300} {
		l = append(l, slices.Repeat([]string{"y", "zz", ""}, n)[:n])
	}
	return l
}

// bytesOf are a number's bytes by its digits of base 128.
func bytesOf(v uint64) string {
	var b []byte
	rest, digit := new(big.Int).SetUint64(v), new(big.Int)
	for {
		rest.DivMod(rest, big.NewInt(128), digit)
		b = append(b, byte(digit.Int64()))
		if rest.Sign() == 0 {
			break
		}
	}
	slices.Reverse(b)
	for i := range b[:len(b)-1] {
		b[i] += 128
	}
	return string(b)
}

// numberOf tells what TakeNum should, by whole numbers of any size.
func numberOf(s string) (uint64, string, api.Errno) {
	if s == "" {
		return 0, "", api.ErrMore
	}
	if s[0] == 128 {
		return 0, "", api.ErrForm
	}
	v := new(big.Int)
	for i := range len(s) {
		v.Mul(v, big.NewInt(128))
		v.Add(v, big.NewInt(int64(s[i]%128)))
		if v.BitLen() > 64 {
			return 0, "", api.ErrForm
		}
		if s[i] < 128 {
			return v.Uint64(), s[i+1:], api.OK
		}
	}
	return 0, "", api.ErrMore
}

// textOf tells what TakeText should.
func textOf(s string, most int) (string, string, api.Errno) {
	n, rest, e := numberOf(s)
	if e != api.OK {
		return "", "", e
	}
	whole := new(big.Int).SetUint64(n)
	if whole.Cmp(big.NewInt(int64(most))) > 0 {
		return "", "", api.ErrBig
	}
	if whole.Cmp(big.NewInt(int64(len(rest)))) > 0 {
		return "", "", api.ErrMore
	}
	return rest[:int(n)], rest[int(n):], api.OK
}

// rowOf tells what TakeRow should.
func rowOf(s string, many, most int) ([]string, string, api.Errno) {
	n, rest, e := numberOf(s)
	if e != api.OK {
		return nil, "", e
	}
	if new(big.Int).SetUint64(n).Cmp(big.NewInt(int64(many))) > 0 {
		return nil, "", api.ErrBig
	}
	var l []string
	for uint64(len(l)) < n {
		var t string
		if t, rest, e = textOf(rest, most); e != api.OK {
			return nil, "", e
		}
		l = append(l, t)
	}
	return l, rest, api.OK
}

// samples: all short rows of some bytes, and long ones about the greatest number.
func samples() []string {
	alphabet := "\x00\x01\x02\x03\x7f\x80\x81\xff"
	l := []string{""}
	for from, n := 0, 0; n < 5; n++ {
		to := len(l)
		for _, s := range l[from:to] {
			for i := range len(alphabet) {
				l = append(l, s+alphabet[i:i+1])
			}
		}
		from = to
	}
	for _, first := range []string{"\x81", "\x82", "\x83", "\xff"} {
		for _, middle := range []string{"\x80", "\x81", "\xff"} {
			for n := range 12 {
				for _, last := range []string{"", "\x00", "\x7f", "\x00z", "\x7f\x80"} {
					l = append(l, first+strings.Repeat(middle, n)+last)
				}
			}
		}
	}
	r := rand.New(rand.NewSource(1))
	for range 20000 {
		b := make([]byte, r.Intn(24))
		for i := range b {
			b[i] = alphabet[r.Intn(len(alphabet))]
		}
		l = append(l, string(b))
	}
	return l
}

var bounds = []int{math.MinInt, -1, 0, 1, 2, 127, 128, math.MaxInt}

// P1.1

func TestNumExamples(t *testing.T) {
	for _, x := range []struct {
		v uint64
		s string
	}{
		{0, "\x00"}, {1, "\x01"}, {127, "\x7f"}, {128, "\x81\x00"}, {300, "\x82\x2c"},
		{16383, "\xff\x7f"}, {16384, "\x81\x80\x00"},
		{1 << 63, "\x81\x80\x80\x80\x80\x80\x80\x80\x80\x00"},
		{math.MaxUint64, "\x81\xff\xff\xff\xff\xff\xff\xff\xff\x7f"},
	} {
		if s := Num(x.v); s != x.s {
			t.Errorf("Num(%d): %x, not %x", x.v, s, x.s)
		}
	}
}

func TestNumHasItsDigits(t *testing.T) {
	for _, v := range numbers() {
		if s, want := Num(v), bytesOf(v); s != want {
			t.Fatalf("Num(%d): %x, not %x", v, s, want)
		}
	}
}

func TestTextIsLengthAndBytes(t *testing.T) {
	for _, x := range texts() {
		if s, want := Text(x), bytesOf(uint64(len(x)))+x; s != want {
			t.Errorf("Text of %d bytes: %.40x, not %.40x", len(x), s, want)
		}
	}
}

func TestRowIsCountAndTexts(t *testing.T) {
	for _, l := range rows() {
		want := bytesOf(uint64(len(l)))
		for _, x := range l {
			want += bytesOf(uint64(len(x))) + x
		}
		if s := Row(l); s != want {
			t.Errorf("Row of %d texts: %.40x, not %.40x", len(l), s, want)
		}
	}
	if s := Row([]string{"a", "", "bc"}); s != "\x03\x01a\x00\x02bc" {
		t.Errorf("Row: %x", s)
	}
}

// P1.2

func TestTakeNumErrors(t *testing.T) {
	ff := func(n int) string { return strings.Repeat("\xff", n) }
	zeros := func(n int) string { return strings.Repeat("\x80", n) }
	for _, x := range []struct {
		s string
		e api.Errno
	}{
		{"", api.ErrMore},
		{"\x80", api.ErrForm}, {"\x80\x01", api.ErrForm}, {"\x80\x80", api.ErrForm},
		{"\x81", api.ErrMore}, {"\xff\xff", api.ErrMore}, {ff(9), api.ErrMore},
		{"\x81" + ff(8), api.ErrMore},
		// The number so far is no more than 2^64 - 1 till the tenth byte is there.
		{"\x82" + zeros(8), api.ErrMore},
		{"\x82" + zeros(9), api.ErrForm}, {"\x82" + zeros(8) + "\x00", api.ErrForm},
		{"\x82" + ff(8) + "\x7f", api.ErrForm},
		{ff(10), api.ErrForm}, {"\x81" + ff(9), api.ErrMore}, {"\x81" + ff(10), api.ErrForm},
		{"\x81" + ff(9) + "\x00", api.ErrForm},
	} {
		if v, rest, e := TakeNum(x.s); v != 0 || rest != "" || e != x.e {
			t.Errorf("TakeNum(%x): %d %x %d, not %d", x.s, v, rest, e, x.e)
		}
	}
}

func TestTakeNumLeavesTheRest(t *testing.T) {
	for _, rest := range []string{"", "\x00", "\x80", "\xff\xff", "abc"} {
		if v, left, e := TakeNum("\x82\x2c" + rest); v != 300 || left != rest || e != api.OK {
			t.Errorf("%x: %d %x %d", rest, v, left, e)
		}
	}
}

func TestTakeTextErrors(t *testing.T) {
	for _, x := range []struct {
		s    string
		most int
		e    api.Errno
	}{
		{"", 9, api.ErrMore}, {"\x80a", 9, api.ErrForm}, {"\x81", 9, api.ErrMore},
		{"", -1, api.ErrMore}, {"\x80", -1, api.ErrForm},
		{"\x82" + strings.Repeat("\xff", 8) + "\x7f", math.MaxInt, api.ErrForm},
		{"\x00", -1, api.ErrBig}, {"\x00", math.MinInt, api.ErrBig}, {"\x01a", 0, api.ErrBig},
		{"\x02ab", 1, api.ErrBig}, {"\x03ab", 2, api.ErrBig}, {"\x03", 2, api.ErrBig},
		{"\x03ab", 3, api.ErrMore}, {"\x01", 1, api.ErrMore}, {"\x7fa", math.MaxInt, api.ErrMore},
		// Lengths that no int has, or just one.
		{Num(math.MaxUint64) + "a", math.MaxInt, api.ErrBig}, {Num(1<<63) + "a", math.MaxInt, api.ErrBig},
		{Num(math.MaxUint64) + "a", -1, api.ErrBig}, {Num(1<<63-1) + "a", math.MaxInt, api.ErrMore},
	} {
		if v, rest, e := TakeText(x.s, x.most); v != "" || rest != "" || e != x.e {
			t.Errorf("TakeText(%x, %d): %x %x %d, not %d", x.s, x.most, v, rest, e, x.e)
		}
	}
}

func TestTakeTextUpToMost(t *testing.T) {
	for _, most := range []int{2, 3, math.MaxInt} {
		if v, rest, e := TakeText("\x02ab\x80", most); v != "ab" || rest != "\x80" || e != api.OK {
			t.Errorf("%d: %q %q %d", most, v, rest, e)
		}
	}
	if v, rest, e := TakeText("\x00", 0); v != "" || rest != "" || e != api.OK {
		t.Errorf("%q %q %d", v, rest, e)
	}
}

func TestTakeRowErrors(t *testing.T) {
	for _, x := range []struct {
		s          string
		many, most int
		e          api.Errno
	}{
		{"", 9, 9, api.ErrMore}, {"\x80", 9, 9, api.ErrForm}, {"\x81", 9, 9, api.ErrMore},
		{"", -1, 9, api.ErrMore}, {"\x80", -1, 9, api.ErrForm},
		{"\x00", -1, 9, api.ErrBig}, {"\x00", math.MinInt, 9, api.ErrBig}, {"\x01\x00", 0, 9, api.ErrBig},
		// That there are too many is asked ahead of the texts.
		{"\x03\x80", 2, 9, api.ErrBig}, {"\x03", 2, 9, api.ErrBig},
		{"\x03\x80", 3, 9, api.ErrForm}, {"\x03", 3, 9, api.ErrMore},
		// The first text that can't be taken tells the error.
		{"\x02\x02ab\x80", 2, 1, api.ErrBig}, {"\x02\x01a\x80", 2, 1, api.ErrForm}, {"\x02\x01a\x02b", 2, 2, api.ErrMore},
		{"\x02\x01a", 2, 1, api.ErrMore}, {"\x02\x01a\x02bc", 2, 1, api.ErrBig},
		{"\x01\x00", 1, -1, api.ErrBig},
		{Num(math.MaxUint64) + "\x00", math.MaxInt, 9, api.ErrBig}, {Num(1<<63) + "\x00", math.MaxInt, 9, api.ErrBig},
		{Num(math.MaxUint64) + "\x00", -1, 9, api.ErrBig}, {Num(1<<63-1) + "\x00\x01a", math.MaxInt, 9, api.ErrMore},
	} {
		if v, rest, e := TakeRow(x.s, x.many, x.most); len(v) != 0 || rest != "" || e != x.e {
			t.Errorf("TakeRow(%x, %d, %d): %q %x %d, not %d", x.s, x.many, x.most, v, rest, e, x.e)
		}
	}
}

func TestTakeRowUpToMany(t *testing.T) {
	want := []string{"a", "", "bc"}
	for _, many := range []int{3, 4, math.MaxInt} {
		if v, rest, e := TakeRow("\x03\x01a\x00\x02bc\x80", many, 2); !slices.Equal(v, want) || rest != "\x80" || e != api.OK {
			t.Errorf("%d: %q %q %d", many, v, rest, e)
		}
	}
	// Without a text, how long one may be isn't asked.
	if v, rest, e := TakeRow("\x00z", 0, -1); len(v) != 0 || rest != "z" || e != api.OK {
		t.Errorf("%q %q %d", v, rest, e)
	}
}

func TestTakesAsToldAtAllSamples(t *testing.T) {
	for _, s := range samples() {
		v, rest, e := TakeNum(s)
		if v2, rest2, e2 := numberOf(s); v != v2 || rest != rest2 || e != e2 {
			t.Fatalf("TakeNum(%x): %d %x %d, not %d %x %d", s, v, rest, e, v2, rest2, e2)
		}
		for _, most := range bounds {
			x, rest, e := TakeText(s, most)
			if x2, rest2, e2 := textOf(s, most); x != x2 || rest != rest2 || e != e2 {
				t.Fatalf("TakeText(%x, %d): %x %x %d, not %x %x %d", s, most, x, rest, e, x2, rest2, e2)
			}
			for _, many := range bounds {
				l, rest, e := TakeRow(s, many, most)
				if l2, rest2, e2 := rowOf(s, many, most); !slices.Equal(l, l2) || rest != rest2 || e != e2 {
					t.Fatalf("TakeRow(%x, %d, %d): %x %x %d, not %x %x %d", s, many, most, l, rest, e, l2, rest2, e2)
				}
			}
		}
	}
}

// P1.3

// behind is what may stand behind a form.
var behind = []string{"", "\x00", "\x80", "\xff", "\x01a", "\x81\x00"}

func TestNumIsTakenWhateverStandsBehind(t *testing.T) {
	for _, v := range numbers() {
		s := Num(v)
		for _, z := range behind {
			if got, rest, e := TakeNum(s + z); got != v || rest != z || e != api.OK {
				t.Fatalf("%d, then %x: %d %x %d", v, z, got, rest, e)
			}
		}
		for i := range len(s) {
			if _, _, e := TakeNum(s[:i]); e != api.ErrMore {
				t.Fatalf("%d bytes of %x: %d", i, s, e)
			}
		}
	}
}

func TestTextIsTakenWhateverStandsBehind(t *testing.T) {
	for _, x := range texts() {
		s := Text(x)
		for _, z := range behind {
			if got, rest, e := TakeText(s+z, len(x)); got != x || rest != z || e != api.OK {
				t.Fatalf("%d bytes, then %x: %d", len(x), z, e)
			}
		}
		for i := range len(s) {
			if _, _, e := TakeText(s[:i], len(x)); e != api.ErrMore {
				t.Fatalf("%d bytes of %d: %d", i, len(s), e)
			}
		}
	}
}

func TestRowIsTakenWhateverStandsBehind(t *testing.T) {
	for _, l := range rows() {
		s := Row(l)
		for _, z := range behind {
			if got, rest, e := TakeRow(s+z, len(l), api.MaxText); !slices.Equal(got, l) || rest != z || e != api.OK {
				t.Fatalf("%d texts, then %x: %d", len(l), z, e)
			}
		}
		// Of a long form: its first bytes, its last, and some between.
		for i := 0; i < len(s); i += 1 + len(s)/1000 {
			if _, _, e := TakeRow(s[:i], len(l), api.MaxText); e != api.ErrMore {
				t.Fatalf("%d bytes of %d: %d", i, len(s), e)
			}
		}
		if _, _, e := TakeRow(s[:len(s)-1], len(l), api.MaxText); e != api.ErrMore {
			t.Fatalf("all but the last of %d bytes: %d", len(s), e)
		}
	}
}

func TestWhatIsTakenIsWrittenTheSame(t *testing.T) {
	for _, s := range samples() {
		if v, rest, e := TakeNum(s); e == api.OK && Num(v)+rest != s {
			t.Fatalf("%x: the number %d is %x", s, v, Num(v))
		}
		if v, rest, e := TakeText(s, math.MaxInt); e == api.OK && Text(v)+rest != s {
			t.Fatalf("%x: the text %x is %x", s, v, Text(v))
		}
		if v, rest, e := TakeRow(s, math.MaxInt, math.MaxInt); e == api.OK && Row(v)+rest != s {
			t.Fatalf("%x: the row %x is %x", s, v, Row(v))
		}
	}
}

// R3: neither a list that is handed in nor one that came out is written into by a later call.

func TestListsAreLeftAlone(t *testing.T) {
	in := []string{"a", "b", "c"}
	s := Row(in[:2])
	if !slices.Equal(in, []string{"a", "b", "c"}) {
		t.Errorf("Row wrote into its argument: %q", in)
	}
	first, _, _ := TakeRow(s, 2, 1)
	second, _, _ := TakeRow(s, 2, 1)
	second[0] = "z"
	_ = append(second, "y")
	if third, _, _ := TakeRow(s, 2, 1); !slices.Equal(first, in[:2]) || !slices.Equal(third, in[:2]) {
		t.Errorf("%q %q", first, third)
	}
}
