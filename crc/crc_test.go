package crc

import (
	"hash/crc32"
	"math/big"
	"math/bits"
	"math/rand"
	"strings"
	"testing"

	"hogshead/api"
)

// every has each byte once.
func every() string {
	b := make([]byte, 256)
	for i := range b {
		b[i] = byte(i)
	}
	return string(b)
}

// texts: short ones of all kinds, some long ones, and random ones of each length up to 80.
func texts() []string {
	l := []string{"", "a", "abc", "123456789", "\x00", "\x00\x00\x00\x00", "\x00\x00\x00\x00\x00", "\x80", "\xff", "\xff\xff\xff\xff", "wörter", every(), strings.Repeat("x", api.MaxText)}
	for i := range 256 {
		l = append(l, string([]byte{byte(i)}), "a"+string([]byte{byte(i)}))
	}
	r := rand.New(rand.NewSource(1))
	for n := range 80 {
		for range 4 {
			b := make([]byte, n)
			r.Read(b)
			l = append(l, string(b))
		}
	}
	return l
}

// registers: edges, single bits, and random ones.
func registers() []uint32 {
	l := []uint32{0, 1, 0x7fffffff, 0x80000000, 0xff000000, 0xfffffffe, 0xffffffff, 0x04c11db7}
	for i := range 32 {
		l = append(l, 1<<i)
	}
	r := rand.New(rand.NewSource(2))
	for range 100 {
		l = append(l, r.Uint32())
	}
	return l
}

// stepOf steps by the eight bits of b as the chapter's words say, in whole numbers of any size.
func stepOf(r uint32, b byte) uint32 {
	v, beyond := new(big.Int).SetUint64(uint64(r)), big.NewInt(1<<32)
	for i := 7; i >= 0; i-- {
		carry := v.Bit(31) ^ uint(b>>i&1)
		v.Lsh(v, 1).Mod(v, beyond)
		if carry == 1 {
			v.Xor(v, big.NewInt(0x04c11db7))
		}
	}
	return uint32(v.Uint64())
}

// sumOf is the library's sum of the same polynomial, which goes through each byte from its lowest bit on and tells its register turned about.
func sumOf(s string) uint32 {
	b := []byte(s)
	for i := range b {
		b[i] = bits.Reverse8(b[i])
	}
	return bits.Reverse32(crc32.ChecksumIEEE(b))
}

// sealOf is what Seal should tell.
func sealOf(s string) string {
	v := sumOf(s)
	return s + string([]byte{byte(v >> 24), byte(v >> 16), byte(v >> 8), byte(v)})
}

// turned has n bits of f, from the place at on, turned round where pattern's are 1, the highest of the n first. Bits behind the end aren't there.
func turned(f string, at, n int, pattern uint64) string {
	b := []byte(f)
	for i := range n {
		if place := at + i; place < 8*len(b) && pattern>>(n-1-i)&1 == 1 {
			b[place/8] ^= 0x80 >> (place % 8)
		}
	}
	return string(b)
}

// P2.1

func TestStepExamples(t *testing.T) {
	for _, x := range []struct {
		r    uint32
		b    byte
		want uint32
	}{
		{0, 0, 0}, {0, 1, 0x04c11db7}, {0, 2, 0x09823b6e}, {1, 0, 0x100},
		// The register's highest bits and those of b meet, the highest one first.
		{0xff000000, 0xff, 0}, {0x80000000, 0x80, 0}, {0x01000000, 0x01, 0}, {0x80ffffff, 0x80, 0xffffff00},
		{0x01000000, 0, 0x04c11db7}, {0x01000000, 0x80, 0x04c11db7 ^ stepOf(0, 0x80)},
	} {
		if r := Step(x.r, x.b); r != x.want {
			t.Errorf("Step(%08x, %02x): %08x, not %08x", x.r, x.b, r, x.want)
		}
	}
}

func TestStepIsByEightBits(t *testing.T) {
	for _, r := range registers() {
		for b := range 256 {
			if got, want := Step(r, byte(b)), stepOf(r, byte(b)); got != want {
				t.Fatalf("Step(%08x, %02x): %08x, not %08x", r, b, got, want)
			}
		}
	}
}

func TestSumExamples(t *testing.T) {
	for _, x := range []struct {
		s    string
		want uint32
	}{
		{"", 0}, {"123456789", 0xfc891918}, {"\xff\xff\xff\xff", 0xffffffff}, {"\x00", 0xb1f7404b},
	} {
		if v := Sum(x.s); v != x.want {
			t.Errorf("Sum(%q): %08x, not %08x", x.s, v, x.want)
		}
	}
}

func TestSumStepsByEachByte(t *testing.T) {
	for _, s := range texts() {
		r := uint32(0xffffffff)
		for i := range len(s) {
			r = Step(r, s[i])
		}
		if v, want := Sum(s), r^0xffffffff; v != want {
			t.Fatalf("Sum of %.40q: %08x, not %08x", s, v, want)
		}
	}
}

func TestSumIsTheLibrarysTurnedAbout(t *testing.T) {
	for _, s := range texts() {
		if v, want := Sum(s), sumOf(s); v != want {
			t.Fatalf("Sum of %.40q: %08x, not %08x", s, v, want)
		}
	}
}

// P2.2

func TestSealExamples(t *testing.T) {
	for _, x := range []struct{ s, want string }{
		{"", "\x00\x00\x00\x00"},
		{"123456789", "123456789\xfc\x89\x19\x18"},
		{"\x00", "\x00\xb1\xf7\x40\x4b"},
	} {
		if f := Seal(x.s); f != x.want {
			t.Errorf("Seal(%q): %x, not %x", x.s, f, x.want)
		}
	}
}

func TestSealIsTextAndSum(t *testing.T) {
	for _, s := range texts() {
		if f, want := Seal(s), sealOf(s); f != want {
			t.Fatalf("Seal of %.40q: ends %x", s, f[max(0, len(f)-8):])
		}
	}
}

func TestOpenOfTooFewBytes(t *testing.T) {
	for _, f := range []string{"", "\x00", "\x00\x00", "\x00\x00\x00", "a", "abc", "\xff\xff\xff", Seal("")[:3]} {
		if s, e := Open(f); s != "" || e != api.ErrMore {
			t.Errorf("Open(%x): %q %d", f, s, e)
		}
	}
}

func TestOpenOfAnotherSum(t *testing.T) {
	for _, f := range []string{
		"\x00\x00\x00\x01", "\xff\xff\xff\xff", "\x80\x00\x00\x00", "abcd",
		"123456789\x18\x19\x89\xfc", "123456789\x03\x76\xe6\xe7", "12345678\xfc\x89\x19\x18",
		"123456789", "123456789\xfc\x89\x19", "123456789\xfc\x89\x19\x18\x00", "\x00123456789\xfc\x89\x19\x18",
		// Bytes of 0 ahead or behind make another sum.
		"\x00\x00\x00\x00\x00", strings.Repeat("\x00", 12),
	} {
		if s, e := Open(f); s != "" || e != api.ErrSum {
			t.Errorf("Open(%x): %q %d", f, s, e)
		}
	}
}

func TestOpenHoldsTheLastFourBytesAgainstTheSum(t *testing.T) {
	r := rand.New(rand.NewSource(3))
	for _, s := range texts() {
		for range 20 {
			end := make([]byte, 4)
			r.Read(end)
			f := s + string(end)
			want, wantErr := "", api.ErrSum
			if f == sealOf(s) {
				want, wantErr = s, api.OK
			}
			if got, e := Open(f); got != want || e != wantErr {
				t.Fatalf("%.40q with %x: %d, not %d", s, end, e, wantErr)
			}
		}
		if got, e := Open(sealOf(s)); got != s || e != api.OK {
			t.Fatalf("%.40q with its sum: %.40q %d", s, got, e)
		}
	}
}

// P2.3

func TestWhatWasSealedIsOpened(t *testing.T) {
	for _, s := range texts() {
		f := Seal(s)
		if got, e := Open(f); got != s || e != api.OK {
			t.Fatalf("%.40q: %.40q %d", s, got, e)
		}
		if got, e := Open(Seal(f)); got != f || e != api.OK {
			t.Fatalf("%.40q, twice: %.40q %d", s, got, e)
		}
	}
}

// isNotOpened fails, if f, which isn't as it was sealed, is opened.
func isNotOpened(t *testing.T, f string, at, n int, pattern uint64) {
	t.Helper()
	if s, e := Open(turned(f, at, n, pattern)); s != "" || e != api.ErrSum {
		t.Fatalf("%.40x, %d bits from %d on turned by %x: %q %d", f, n, at, pattern, s, e)
	}
}

func TestShortBurstsAreTold(t *testing.T) {
	for _, s := range []string{"", "a", "abc", "\x00\x00\x00\x00\x00", "\xff\xff\xff\xff"} {
		f := Seal(s)
		for at := range 8 * len(f) {
			for n := 1; n <= 11 && at+n <= 8*len(f); n++ {
				// The first bit and the last one are turned: each burst comes once.
				for inner := range uint64(1) << max(0, n-2) {
					isNotOpened(t, f, at, n, 1<<(n-1)|inner<<1|1)
				}
			}
		}
	}
}

func TestTwoBitsAreTold(t *testing.T) {
	f := Seal("two bits")
	for at := range 8 * len(f) {
		for n := 2; n <= 32 && at+n <= 8*len(f); n++ {
			isNotOpened(t, f, at, n, 1<<(n-1)|1)
		}
	}
}

func TestBurstsOf32BitsAreTold(t *testing.T) {
	r := rand.New(rand.NewSource(4))
	for _, s := range []string{"", "a", "abcd", "a burst of 32 bits", strings.Repeat("\x00", 40), every()} {
		f := Seal(s)
		for at := range 8*len(f) - 31 {
			// Edges, and what registers are xored with, in both directions.
			for _, pattern := range []uint64{1, 0x80000000, 0x80000001, 0xffffffff, 0x04c11db7, 0xedb88320, 0xff0000ff} {
				isNotOpened(t, f, at, 32, pattern)
			}
			for range 20 {
				isNotOpened(t, f, at, 32, uint64(r.Uint32())|1)
			}
		}
	}
}

func TestBurstsOfALongTextAreTold(t *testing.T) {
	r := rand.New(rand.NewSource(5))
	f := Seal(strings.Repeat("long", api.MaxText/4))
	for range 300 {
		isNotOpened(t, f, r.Intn(8*len(f)-31), 32, uint64(r.Uint32())|1)
	}
	for at := 8*len(f) - 70; at <= 8*len(f)-32; at++ {
		isNotOpened(t, f, at, 32, uint64(r.Uint32())|1)
	}
}

// What isn't within 32 bits may be another sealed text: 33 bits, turned by all that a bit steps through, are.
func TestBurstOf33BitsIsAnotherSealedText(t *testing.T) {
	for _, s := range []string{"a", "abcd", "a burst of 33 bits"} {
		f := Seal(s)
		for at := range 8*len(f) - 32 {
			g := turned(f, at, 33, 0x104c11db7)
			if got, e := Open(g); got != g[:len(g)-4] || e != api.OK {
				t.Fatalf("%q, from %d on: %q %d", s, at, got, e)
			}
		}
	}
}

// R4: nothing is kept from call to call.

func TestAnswersHangOnArgumentsAlone(t *testing.T) {
	first := Sum("abc")
	for _, s := range texts() {
		Sum(s)
		Open(s)
		if v := Sum("abc"); v != first {
			t.Fatalf("behind %.40q: %08x, not %08x", s, v, first)
		}
	}
}

func BenchmarkSum(b *testing.B) {
	s := strings.Repeat("shard.", 4)
	for range b.N {
		Sum(s)
	}
}
