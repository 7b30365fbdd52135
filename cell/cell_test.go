package cell

import (
	"fmt"
	"hash/crc32"
	"math"
	"math/big"
	"math/bits"
	"math/rand"
	"slices"
	"strconv"
	"strings"
	"testing"

	"hogshead/api"
	"hogshead/crc"
	"hogshead/disk"
	"hogshead/vlq"
)

// turns are edges: of the groups of seven bits, of fewer bits than 64, and of numbers with a sign.
var turns = []uint64{0, 1, 2, 126, 127, 128, 129, 255, 256, 16383, 16384, math.MaxInt32, 1 << 31, math.MaxUint32, 1 << 32, 1<<56 - 1, 1 << 56, math.MaxInt64, 1 << 63, 1<<63 + 1, math.MaxUint64 - 1, math.MaxUint64}

// bases are such as no disk has both slots of.
var bases = []int{-1, -2, -3, -256, math.MinInt32, math.MinInt + 1, math.MinInt, 1 << 16, math.MaxInt32, 1 << 32, 1<<32 + 1, math.MaxInt - 2, math.MaxInt - 1, math.MaxInt}

// numOf are a number's bytes, as chapter 1 says.
func numOf(v uint64) string {
	s := string([]byte{byte(v % 128)})
	for v /= 128; v > 0; v /= 128 {
		s = string([]byte{128 + byte(v%128)}) + s
	}
	return s
}

// sealOf is a sealed text, as chapter 2 says, by the library's sum, which goes through each byte from its lowest bit on and tells its register turned about.
func sealOf(s string) string {
	b := []byte(s)
	for i := range b {
		b[i] = bits.Reverse8(b[i])
	}
	v := bits.Reverse32(crc32.ChecksumIEEE(b))
	return s + string([]byte{byte(v >> 24), byte(v >> 16), byte(v >> 8), byte(v)})
}

// recordOf is a record, as the chapter's words say.
func recordOf(turn uint64, value string) string {
	return sealOf(numOf(turn) + numOf(uint64(len(value))) + value)
}

// takeOf is what Take should tell. All that may be its turn and its value are told by how many bytes the turn has: the right ones are those whose record it is.
func takeOf(s string) (uint64, string, bool) {
	for n := 1; n <= 10; n++ {
		v := new(big.Int)
		for i := range min(n, len(s)) {
			v.Lsh(v, 7).Add(v, big.NewInt(int64(s[i]%128)))
		}
		for m := 1; m <= 2 && v.IsUint64() && n+m+4 <= len(s); m++ {
			value := s[n+m : len(s)-4]
			if len(value) <= 1000 && recordOf(v.Uint64(), value) == s {
				return v.Uint64(), value, true
			}
		}
	}
	return 0, "", false
}

// readOf is what Read should tell of a cell whose slots have these, and how far behind base the other slot is.
func readOf(a, b string) (value string, turn uint64, e api.Errno, other int) {
	turnA, valueA, okA := takeOf(a)
	turnB, valueB, okB := takeOf(b)
	switch {
	case !okA && !okB:
		return "", 0, api.ErrNone, 0
	case okA && (!okB || turnA >= turnB):
		return valueA, turnA, api.OK, 1
	}
	return valueB, turnB, api.OK, 0
}

// of is a disk of slots, with writes that wait, of which each is a slot's number and its bytes.
func of(slots []string, wait ...any) api.Disk {
	d := api.Disk{Slots: slots, Fuse: -1}
	for i := 0; i+1 < len(wait); i += 2 {
		d.Wait = append(d.Wait, api.Write{Slot: wait[i].(int), Bytes: wait[i+1].(string)})
	}
	return d
}

// armed is a disk with a Fuse.
func armed(d api.Disk, fuse int) api.Disk {
	d.Fuse = fuse
	return d
}

// off is a disk that ran out.
func off(d api.Disk) api.Disk {
	d.Fuse, d.Off = 0, true
	return d
}

// deep is a disk with lists of its own.
func deep(d api.Disk) api.Disk {
	d.Slots = append([]string{}, d.Slots...)
	d.Wait = append([]api.Write{}, d.Wait...)
	return d
}

// lastOf is what a slot has, or the last write that waits for it.
func lastOf(d api.Disk, slot int) string {
	s := d.Slots[slot]
	for _, w := range d.Wait {
		if w.Slot == slot {
			s = w.Bytes
		}
	}
	return s
}

// written is a disk behind a Put that chapter 8 doesn't refuse for its slot or its length, and what that tells.
func written(d api.Disk, slot int, s string) (api.Disk, api.Errno) {
	if d.Off {
		return d, api.ErrDead
	}
	d = deep(d)
	d.Wait = append(d.Wait, api.Write{Slot: slot, Bytes: s})
	if d.Fuse == 0 {
		d.Off = true
		return d, api.ErrDead
	}
	if d.Fuse > 0 {
		d.Fuse--
	}
	return d, api.OK
}

// writeOf is what Write should tell.
func writeOf(d api.Disk, base int, value string) (api.Disk, api.Errno) {
	if base < 0 || base > len(d.Slots)-2 {
		return d, api.ErrArg
	}
	if len(value) > 1000 {
		return d, api.ErrBig
	}
	_, turn, _, other := readOf(lastOf(d, base), lastOf(d, base+1))
	if turn == math.MaxUint64 {
		return d, api.ErrFull
	}
	return written(d, base+other, recordOf(turn+1, value))
}

// told is all of a disk, to be held against another's, and to be read.
func told(d api.Disk) string {
	var s strings.Builder
	s.WriteString("slots")
	for _, slot := range d.Slots {
		s.WriteString(" " + strconv.Quote(slot))
	}
	s.WriteString(", waiting")
	for _, w := range d.Wait {
		s.WriteString(" " + strconv.Itoa(w.Slot) + " " + strconv.Quote(w.Bytes))
	}
	return s.String() + ", fuse " + strconv.Itoa(d.Fuse) + ", off " + strconv.FormatBool(d.Off)
}

// writes holds what Write tells against what it should.
func writes(t *testing.T, d api.Disk, base int, value string, want api.Disk, wantE api.Errno) {
	t.Helper()
	got, e := Write(d, base, value)
	if e != wantE || told(got) != told(want) {
		t.Fatalf("Write(%.300s, %d, %.20q of %d): %.300s, %d; not %.300s, %d", told(d), base, value, len(value), told(got), e, told(want), wantE)
	}
}

// reads holds what Read tells against what it should.
func reads(t *testing.T, d api.Disk, base int, value string, turn uint64, wantE api.Errno) {
	t.Helper()
	got, gotTurn, e := Read(d, base)
	if got != value || gotTurn != turn || e != wantE {
		t.Fatalf("Read(%.300s, %d): %.20q %d %d, not %.20q %d %d", told(d), base, got, gotTurn, e, value, turn, wantE)
	}
}

// isNone fails, if s is taken.
func isNone(t *testing.T, s string) {
	t.Helper()
	if turn, value, e := Take(s); turn != 0 || value != "" || e != api.ErrForm {
		t.Fatalf("Take(%.80x): %d %.20q %d", s, turn, value, e)
	}
}

// is fails, if s isn't taken as what it should be.
func is(t *testing.T, s string, turn uint64, value string) {
	t.Helper()
	if gotTurn, got, e := Take(s); gotTurn != turn || got != value || e != api.OK {
		t.Fatalf("Take(%.80x): %d %.20q %d, not %d %.20q", s, gotTurn, got, e, turn, value)
	}
}

// random is a text of n bytes.
func random(g *rand.Rand, n int) string {
	b := make([]byte, n)
	g.Read(b)
	return string(b)
}

// values are of all lengths at the edges, and some that look like what a record has.
func values() []string {
	l := []string{"", "a", "\x00", "\x80", "\xff", "wörter", "\x00\x00\x00\x00", "\x01\x01x", recordOf(1, "x"), sealOf("x"), sealOf("")}
	g := rand.New(rand.NewSource(1))
	for _, n := range []int{2, 3, 4, 5, 126, 127, 128, 129, 255, 256, 512, 999, 1000} {
		l = append(l, random(g, n))
	}
	return append(l, strings.Repeat("\x00", 1000), strings.Repeat("\xff", 1000))
}

// noRecords are texts that are none: some are so in one thing alone.
func noRecords() []string {
	long := strings.Repeat("x", 1001)
	l := []string{
		"", "\x00", "a", "abcd", "abcdefg", "\x00\x00\x00\x00", "\x00\x00\x00\x00\x00\x00", "\xff\xff\xff\xff\xff\xff",
		// Not sealed, or sealed twice.
		"\x01\x01x", "\x01\x01x\x00\x00\x00\x00", "\x01\x01x\x5d\xe6\x1f\xfa", "\x01\x01x\xfb\x1f\xe6\x5d", sealOf(recordOf(1, "x")),
		// Sealed, but with nothing, with a turn alone, or with a part of a turn or of a length.
		sealOf(""), sealOf("\x00"), sealOf("\x01"), sealOf("\x81"), sealOf("\x81\x80"), sealOf("\x01\x81"), sealOf(strings.Repeat("\xff", 9)), sealOf(strings.Repeat("\xff", 20)),
		// Turns and lengths that aren't written so, or are too great.
		sealOf("\x80\x01\x01x"), sealOf("\x80\x00"), sealOf("\x80"), sealOf("\x01\x80\x01x"), sealOf("\x01\x80\x00"), sealOf("\x82" + strings.Repeat("\x80", 8) + "\x00\x01x"), sealOf(strings.Repeat("\xff", 9) + "\x7f\x01x"),
		sealOf("\x01\x82" + strings.Repeat("\x80", 8) + "\x00x"), sealOf("\x01\x81" + strings.Repeat("\xff", 8) + "\x7fx"), sealOf("\x01\x81" + strings.Repeat("\x80", 8) + "\x00"),
		// Fewer bytes than the length says, or more.
		sealOf("\x01\x02x"), sealOf("\x01\x01"), sealOf("\x01\x01xy"), sealOf("\x01\x00x"), sealOf("\x01\x00\x00"), sealOf("\x01\x01x\x00"), sealOf("\x01\x01x\x01\x01x"),
		// Values that are too long.
		sealOf("\x01" + numOf(1001) + long), sealOf("\x01" + numOf(1001) + long[1:]), sealOf("\x00" + numOf(65536) + strings.Repeat("\x00", 65536)), sealOf(numOf(math.MaxUint64) + numOf(1002) + long + "x"),
		// A value, and no turn; the value first.
		sealOf("\x01x"), sealOf("\x01x\x01"), sealOf("abc"), sealOf("\x05\x05abc"),
		// Something ahead of a record, or behind one.
		"\x00" + recordOf(1, "x"), recordOf(1, "x") + "\x00", recordOf(1, "x") + recordOf(1, "x"), recordOf(1, "x") + recordOf(2, "y"), recordOf(0, "") + "\x00\x00\x00\x00",
	}
	return l
}

// P9.1

func TestRecordExamples(t *testing.T) {
	for _, x := range []struct {
		turn        uint64
		value, want string
	}{
		{0, "", "\x00\x00\xff\x48\x9b\x82"},
		{1, "x", "\x01\x01x\x5d\xe6\x1f\xfb"},
		{127, "ab", "\x7f\x02ab\x04\x17\x80\xa3"},
		{128, "ab", "\x81\x00\x02ab\xe9\x1c\x1a\x13"},
		{300, "\x00", "\x82\x2c\x01\x00\xc2\xac\xb0\x58"},
		{math.MaxUint64, "z", "\x81\xff\xff\xff\xff\xff\xff\xff\xff\x7f\x01z\x08\x8c\x6a\x7e"},
	} {
		if s, e := Record(x.turn, x.value); s != x.want || e != api.OK {
			t.Errorf("Record(%d, %q): %x %d, not %x", x.turn, x.value, s, e, x.want)
		}
		is(t, x.want, x.turn, x.value)
	}
}

func TestRecordIsASealedTurnAndText(t *testing.T) {
	for _, turn := range turns {
		for _, value := range values() {
			s, e := Record(turn, value)
			if want := crc.Seal(vlq.Num(turn) + vlq.Text(value)); s != want || e != api.OK {
				t.Fatalf("Record(%d, %.20q): %.40x %d, not %.40x", turn, value, s, e, want)
			}
			if want := recordOf(turn, value); s != want {
				t.Fatalf("Record(%d, %.20q): %.40x, not %.40x", turn, value, s, want)
			}
		}
	}
}

func TestRecordOfEachLength(t *testing.T) {
	long := strings.Repeat("abcdefg", 200)
	for n := range 1100 {
		want, wantE := "", api.ErrBig
		if n <= 1000 {
			want, wantE = recordOf(7, long[:n]), api.OK
			is(t, want, 7, long[:n])
		}
		if s, e := Record(7, long[:n]); s != want || e != wantE {
			t.Fatalf("Record of %d bytes: %.40x %d, not %d", n, s, e, wantE)
		}
	}
}

func TestRecordRefuses(t *testing.T) {
	for _, turn := range turns {
		for _, n := range []int{1001, 1002, 1024, 1025, 65535, 65536, 65537, 1 << 20} {
			if s, e := Record(turn, strings.Repeat("x", n)); s != "" || e != api.ErrBig {
				t.Fatalf("Record(%d, of %d bytes): %.40x %d", turn, n, s, e)
			}
		}
	}
}

func TestTakeOfRecords(t *testing.T) {
	for _, turn := range turns {
		for _, value := range values() {
			is(t, recordOf(turn, value), turn, value)
		}
	}
}

func TestTakeRefuses(t *testing.T) {
	for _, s := range noRecords() {
		if _, _, ok := takeOf(s); ok {
			t.Fatalf("%.40x is a record", s)
		}
		isNone(t, s)
	}
}

func TestTakeOfTooGreatAValue(t *testing.T) {
	for n := 990; n < 1100; n++ {
		s := recordOf(3, strings.Repeat("x", n))
		if n <= 1000 {
			is(t, s, 3, strings.Repeat("x", n))
		} else {
			isNone(t, s)
		}
	}
	for _, turn := range turns {
		isNone(t, recordOf(turn, strings.Repeat("x", 1001)))
	}
}

// Short texts that are sealed: many are almost a record, and some are one.
func TestTakeOfShortTexts(t *testing.T) {
	g := rand.New(rand.NewSource(2))
	heads := []string{"", "\x80", "\xff", "\x81", "\x81\x80", "\x81" + strings.Repeat("\x80", 8), "\x01\x03"}
	for range 60000 {
		s := heads[g.Intn(len(heads))] + random(g, g.Intn(4))
		// Small bytes make lengths that fit.
		b := []byte(s)
		for i := range b {
			if g.Intn(2) == 0 {
				b[i] %= 4
			}
		}
		sealed := sealOf(string(b))
		turn, value, ok := takeOf(sealed)
		if !ok {
			isNone(t, sealed)
			continue
		}
		is(t, sealed, turn, value)
	}
}

func TestTakeOfWhatWasTurnedRound(t *testing.T) {
	for _, s := range []string{recordOf(0, ""), recordOf(1, "x"), recordOf(300, "abc"), recordOf(math.MaxUint64, "\x00\xff")} {
		for at := range 8 * len(s) {
			for long := 1; long <= 9 && at+long <= 8*len(s); long++ {
				b := []byte(s)
				for i := at; i < at+long; i++ {
					b[i/8] ^= 0x80 >> (i % 8)
				}
				isNone(t, string(b))
			}
		}
	}
}

// P9.2

func TestReadExamples(t *testing.T) {
	x, y, z, none := recordOf(1, "x"), recordOf(2, "y"), recordOf(0, "z"), recordOf(1, "x")[:6]
	for _, one := range []struct {
		d     api.Disk
		base  int
		value string
		turn  uint64
		e     api.Errno
	}{
		{of([]string{"", ""}), 0, "", 0, api.ErrNone},
		{of([]string{none, "abc"}), 0, "", 0, api.ErrNone},
		{of([]string{x, ""}), 0, "x", 1, api.OK},
		{of([]string{"", x}), 0, "x", 1, api.OK},
		{of([]string{x, y}), 0, "y", 2, api.OK},
		{of([]string{y, x}), 0, "y", 2, api.OK},
		{of([]string{y, none}), 0, "y", 2, api.OK},
		{of([]string{none, y}), 0, "y", 2, api.OK},
		// The turn 0 is one, too.
		{of([]string{z, ""}), 0, "z", 0, api.OK},
		{of([]string{"", z}), 0, "z", 0, api.OK},
		{of([]string{z, x}), 0, "x", 1, api.OK},
		// The same turn: that of the slot base.
		{of([]string{x, recordOf(1, "w")}), 0, "x", 1, api.OK},
		{of([]string{recordOf(1, "w"), x}), 0, "w", 1, api.OK},
		{of([]string{z, recordOf(0, "w")}), 0, "z", 0, api.OK},
		// Values of nothing.
		{of([]string{recordOf(4, ""), recordOf(3, "w")}), 0, "", 4, api.OK},
		{of([]string{recordOf(2, "w"), recordOf(3, "")}), 0, "", 3, api.OK},
		// The slots that are asked, and no others.
		{of([]string{y, x, ""}), 1, "x", 1, api.OK},
		{of([]string{x, "", y}), 0, "x", 1, api.OK},
		{of([]string{y, "", "", y}), 1, "", 0, api.ErrNone},
		// What waits is read; the last of it, even if it is worse, or no record.
		{of([]string{"", ""}, 0, x), 0, "x", 1, api.OK},
		{of([]string{x, ""}, 1, y), 0, "y", 2, api.OK},
		{of([]string{x, y}, 1, ""), 0, "x", 1, api.OK},
		{of([]string{x, y}, 1, none, 0, ""), 0, "", 0, api.ErrNone},
		{of([]string{x, y}, 1, recordOf(9, "u"), 1, z), 0, "x", 1, api.OK},
		{of([]string{x, y}, 2, recordOf(9, "u"), -1, recordOf(9, "v")), 0, "y", 2, api.OK},
		// With power or without.
		{off(of([]string{x, y})), 0, "y", 2, api.OK},
		{off(of([]string{"", ""})), 0, "", 0, api.ErrNone},
		{armed(of([]string{x, y}), 0), 0, "y", 2, api.OK},
		// Not both slots.
		{of([]string{y}), 0, "", 0, api.ErrArg},
		{of(nil), 0, "", 0, api.ErrArg},
		{of(nil, 0, x, 1, y), 0, "", 0, api.ErrArg},
		{of([]string{x, y}), 1, "", 0, api.ErrArg},
		{of([]string{x, y}), -1, "", 0, api.ErrArg},
		{of([]string{x, y}), 2, "", 0, api.ErrArg},
		{off(of([]string{x, y})), 1, "", 0, api.ErrArg},
	} {
		reads(t, one.d, one.base, one.value, one.turn, one.e)
	}
}

func TestTheGreaterTurnIsRead(t *testing.T) {
	for i, low := range turns {
		for j, high := range turns {
			value, turn := "a", low
			if j > i {
				value, turn = "b", high
			}
			reads(t, of([]string{recordOf(low, "a"), recordOf(high, "b")}), 0, value, turn, api.OK)
		}
	}
}

func TestOfNoSlots(t *testing.T) {
	for _, n := range []int{0, 1, 2, 3, 256, 300} {
		d := of(slices.Repeat([]string{recordOf(1, "x")}, n), 0, recordOf(2, "y"), n, recordOf(3, "z"), -1, recordOf(4, "u"), math.MaxInt, recordOf(5, "v"), math.MinInt, recordOf(6, "w"))
		for _, base := range slices.Concat(bases, []int{n - 1, n, n + 1}) {
			reads(t, d, base, "", 0, api.ErrArg)
			// The base is told of ahead of the value, and of the power.
			for _, value := range []string{"", "x", strings.Repeat("x", 1001)} {
				writes(t, d, base, value, d, api.ErrArg)
				writes(t, off(d), base, value, off(d), api.ErrArg)
				writes(t, armed(d, 0), base, value, armed(d, 0), api.ErrArg)
			}
		}
		for base := 0; base+1 < n; base++ {
			if _, _, e := Read(d, base); e != api.OK {
				t.Fatalf("Read of %d of %d slots: %d", base, n, e)
			}
			if _, e := Write(d, base, "x"); e != api.OK {
				t.Fatalf("Write of %d of %d slots: %d", base, n, e)
			}
		}
	}
}

func TestWriteExamples(t *testing.T) {
	x, y, z := recordOf(1, "x"), recordOf(2, "y"), recordOf(0, "z")
	for _, one := range []struct {
		d    api.Disk
		base int
		slot int
		turn uint64
	}{
		// Without a record, the slot base is written first.
		{of([]string{"", ""}), 0, 0, 1},
		{of([]string{"abc", x[:6]}), 0, 0, 1},
		{of([]string{x, "", ""}), 1, 1, 1},
		{of([]string{x, "", "", x}), 1, 1, 1},
		// The one that isn't read is written.
		{of([]string{x, ""}), 0, 1, 2},
		{of([]string{"", x}), 0, 0, 2},
		{of([]string{x, y}), 0, 0, 3},
		{of([]string{y, x}), 0, 1, 3},
		{of([]string{x, x}), 0, 1, 2},
		{of([]string{z, z}), 0, 1, 1},
		{of([]string{z, ""}), 0, 1, 1},
		{of([]string{"", z}), 0, 0, 1},
		{of([]string{"a", y, x, "b"}), 1, 2, 3},
		{of([]string{"a", x, y, "b"}), 1, 1, 3},
		// By what waits.
		{of([]string{"", ""}, 0, x), 0, 1, 2},
		{of([]string{"", ""}, 0, x, 1, y), 0, 0, 3},
		{of([]string{x, y}, 1, ""), 0, 1, 2},
		{of([]string{x, y}, 0, recordOf(5, "w")), 0, 1, 6},
		{of([]string{x, y}, 0, "", 1, ""), 0, 0, 1},
	} {
		for _, value := range []string{"", "x", "new", strings.Repeat("v", 1000)} {
			// Power for any, for some more, for one more, for none, and none.
			for _, d := range []api.Disk{one.d, armed(one.d, 5), armed(one.d, 1), armed(one.d, 0), armed(one.d, -9), off(one.d)} {
				want, wantE := written(d, one.slot, recordOf(one.turn, value))
				writes(t, d, one.base, value, want, wantE)
			}
		}
	}
}

func TestWriteOfTooMuch(t *testing.T) {
	full := recordOf(math.MaxUint64, "z")
	for _, n := range []int{1001, 1002, 1024, 65536} {
		value := strings.Repeat("x", n)
		for _, slots := range [][]string{{"", ""}, {recordOf(1, "x"), ""}, {full, ""}, {"", full}} {
			// It is told of ahead of the last turn, and of the power.
			for _, d := range []api.Disk{of(slots), armed(of(slots), 0), off(of(slots))} {
				writes(t, d, 0, value, d, api.ErrBig)
			}
		}
	}
}

func TestWriteBehindTheLastTurn(t *testing.T) {
	full := recordOf(math.MaxUint64, "z")
	for _, d := range []api.Disk{
		of([]string{full, ""}), of([]string{"", full}), of([]string{full, full}), of([]string{recordOf(1, "x"), full}), of([]string{full, recordOf(math.MaxUint64-1, "y")}),
		of([]string{"", ""}, 0, full), of([]string{recordOf(1, "x"), ""}, 1, full),
	} {
		// It is told of ahead of the power.
		for _, d := range []api.Disk{d, armed(d, 0), armed(d, 2), off(d)} {
			for _, value := range []string{"", "w", strings.Repeat("w", 1000)} {
				writes(t, d, 0, value, d, api.ErrFull)
			}
		}
	}
	// The turn ahead of the last one has one more, and the turn counts only where it is read.
	d, e := Write(of([]string{recordOf(math.MaxUint64-1, "y"), ""}), 0, "w")
	if e != api.OK {
		t.Fatal(e)
	}
	reads(t, d, 0, "w", math.MaxUint64, api.OK)
	writes(t, d, 0, "v", d, api.ErrFull)
	if _, e := Write(of([]string{full, recordOf(1, "x")}, 0, ""), 0, "w"); e != api.OK {
		t.Fatal(e)
	}
	if _, e := Write(of([]string{full, "", ""}), 1, "w"); e != api.OK {
		t.Fatal(e)
	}
}

func TestEachPairOfSlots(t *testing.T) {
	l := noRecords()
	for _, turn := range turns {
		l = append(l, recordOf(turn, "a"), recordOf(turn, "b"))
	}
	l = append(l, recordOf(5, ""), recordOf(5, strings.Repeat("x", 1000)), recordOf(5, strings.Repeat("x", 1001)))
	for _, a := range l {
		for _, b := range l {
			if len(a)+len(b) > 4000 {
				continue
			}
			for _, d := range []api.Disk{of([]string{a, b}), of([]string{recordOf(3, "c"), ""}, 1, b, 0, a)} {
				value, turn, e, _ := readOf(a, b)
				reads(t, d, 0, value, turn, e)
				want, wantE := writeOf(d, 0, "new")
				writes(t, d, 0, "new", want, wantE)
			}
		}
	}
}

// The turns rise by one, and the slots take turns, the slot base first.
func TestWritesTakeTurns(t *testing.T) {
	d, _ := disk.New(4)
	for i := range 600 {
		value := strconv.Itoa(i)
		next, e := Write(d, 1, value)
		want, _ := written(d, 1+i%2, recordOf(uint64(i)+1, value))
		if e != api.OK || told(next) != told(want) {
			t.Fatalf("the write %d: %.300s, %d", i, told(next), e)
		}
		reads(t, next, 1, value, uint64(i)+1, api.OK)
		if i%3 == 0 {
			next, _ = disk.Flush(next)
		}
		d = next
	}
}

// P9.3

func TestTheChaptersExample(t *testing.T) {
	d, _ := disk.New(2)
	d, _ = Write(d, 0, "x")
	d, _ = disk.Flush(d)
	d, _ = Write(d, 0, "y")
	reads(t, disk.Crash(d, 0, 3), 0, "x", 1, api.OK)
	reads(t, disk.Crash(d, 0, 6), 0, "x", 1, api.OK)
	reads(t, disk.Crash(d, 0, 7), 0, "y", 2, api.OK)
	reads(t, disk.Crash(d, 0, -1), 0, "x", 1, api.OK)
	reads(t, disk.Crash(d, 1, -1), 0, "y", 2, api.OK)
}

func TestWhatWasWrittenIsRead(t *testing.T) {
	for _, n := range []int{2, 3, 256} {
		for _, base := range []int{0, (n - 2) / 2, n - 2} {
			d, _ := disk.New(n)
			for i, value := range values() {
				var e api.Errno
				if d, e = Write(d, base, value); e != api.OK {
					t.Fatal(e)
				}
				reads(t, d, base, value, uint64(i)+1, api.OK)
				flushed, e := disk.Flush(d)
				if e != api.OK {
					t.Fatal(e)
				}
				reads(t, flushed, base, value, uint64(i)+1, api.OK)
				if i%4 > 1 {
					d = flushed
				}
			}
		}
	}
}

// The write at which the power goes is read, too, as long as there is no crash.
func TestTheLastWriteIsRead(t *testing.T) {
	d, _ := disk.New(2)
	d, _ = Write(d, 0, "x")
	d, _ = disk.Flush(d)
	d, e := Write(disk.Arm(d, 0), 0, "y")
	if e != api.ErrDead {
		t.Fatal(e)
	}
	reads(t, d, 0, "y", 2, api.OK)
	// What is written without power isn't.
	d, e = Write(d, 0, "z")
	if e != api.ErrDead {
		t.Fatal(e)
	}
	reads(t, d, 0, "y", 2, api.OK)
	reads(t, disk.Crash(d, 0, -1), 0, "x", 1, api.OK)
	reads(t, disk.Crash(d, 9, -1), 0, "y", 2, api.OK)
}

func TestABeginningOfARecordIsNone(t *testing.T) {
	for _, turn := range turns {
		for _, value := range values() {
			s, e := Record(turn, value)
			if e != api.OK {
				t.Fatal(e)
			}
			for n := range len(s) {
				if len(s) > 300 && n > 20 && n < len(s)-20 && n%97 > 0 {
					continue
				}
				isNone(t, s[:n])
			}
		}
	}
}

// held is what a crash may leave: the value at the last flush (nothing, if there was none), and those written since.
type held struct {
	none   bool
	values []string
}

// bears fails, if a cell has something else.
func (h held) bears(t *testing.T, d api.Disk, base int, what string) {
	t.Helper()
	value, _, e := Read(d, base)
	if e == api.ErrNone && h.none || e == api.OK && slices.Contains(h.values, value) {
		return
	}
	t.Fatalf("%s: %.20q %d, not one of %.200q", what, value, e, h.values)
}

// everyCrash fails, if behind one of them the cell doesn't bear it.
func (h held) everyCrash(t *testing.T, d api.Disk, base int) {
	t.Helper()
	for keep := -1; keep <= len(d.Wait)+1; keep++ {
		long := 3
		if i := max(keep, 0); i < len(d.Wait) {
			long += len(d.Wait[i].Bytes)
		}
		for tear := -1; tear < long; tear++ {
			h.bears(t, disk.Crash(d, keep, tear), base, fmt.Sprintf("Crash(%.300s, %d, %d)", told(d), keep, tear))
		}
	}
}

func TestBehindEveryCrash(t *testing.T) {
	g := rand.New(rand.NewSource(3))
	for range 150 {
		n := 2 + g.Intn(5)
		base := g.Intn(n - 1)
		d, _ := disk.New(n)
		h := held{none: true}
		for i := range g.Intn(14) {
			value := strconv.Itoa(i) + random(g, g.Intn(6))
			d, _ = Write(d, base, value)
			h.values = append(h.values, value)
			// Other slots are written, too.
			if other := g.Intn(n); other != base && other != base+1 {
				d, _ = disk.Put(d, other, recordOf(g.Uint64(), "other"))
			}
			if g.Intn(4) == 0 {
				d, _ = disk.Flush(d)
				h = held{values: []string{value}}
			}
			h.everyCrash(t, d, base)
		}
	}
}

// Behind the crashes the cell goes on, and what it had then stays as safe.
func TestBehindManyCrashes(t *testing.T) {
	g := rand.New(rand.NewSource(4))
	for range 60 {
		d, _ := disk.New(2)
		h := held{none: true}
		for i := range 60 {
			value := strconv.Itoa(i) + random(g, g.Intn(3))
			switch g.Intn(5) {
			case 0:
				d = disk.Crash(d, g.Intn(5)-1, g.Intn(14)-1)
				h.bears(t, d, 0, "behind a crash")
				now, _, e := Read(d, 0)
				h = held{none: e != api.OK}
				if e == api.OK {
					h.values = []string{now}
				}
			case 1:
				var e api.Errno
				if d, e = disk.Flush(d); e == api.OK {
					now, _, e := Read(d, 0)
					h = held{none: e != api.OK}
					if e == api.OK {
						h.values = []string{now}
					}
				}
			case 2:
				d = disk.Arm(d, g.Intn(4)-1)
			default:
				off := d.Off
				d, _ = Write(d, 0, value)
				if !off {
					h.values = append(h.values, value)
				}
			}
			h.everyCrash(t, d, 0)
		}
	}
}

// A write leaves the record that was read as it is, and so does a burst that hits the new one.
func TestTheOldOneStays(t *testing.T) {
	d, _ := disk.New(2)
	d, _ = Write(d, 0, "old")
	d, _ = disk.Flush(d)
	for i := range 40 {
		slot := (i + 1) % 2
		was, turn, _ := Read(d, 0)
		next, e := Write(d, 0, "new"+strconv.Itoa(i))
		if e != api.OK {
			t.Fatal(e)
		}
		next, _ = disk.Flush(next)
		if next.Slots[1-slot] != d.Slots[1-slot] {
			t.Fatalf("the write %d: %s, which was %s", i, told(next), told(d))
		}
		for at := range 8*len(next.Slots[slot]) - 31 {
			hit, e := disk.Burst(next, slot, at, 1<<31|uint32(at)*77)
			if e != api.OK {
				t.Fatal(e)
			}
			reads(t, hit, 0, was, turn, api.OK)
		}
		d = next
	}
}

// Two cells side by side don't see each other.
func TestTwoCells(t *testing.T) {
	g := rand.New(rand.NewSource(5))
	d, _ := disk.New(6)
	var has [3]string
	var turn [3]uint64
	for i := range 200 {
		one := g.Intn(3)
		has[one], turn[one] = strconv.Itoa(i), turn[one]+1
		var e api.Errno
		if d, e = Write(d, 2*one, has[one]); e != api.OK {
			t.Fatal(e)
		}
		if i%5 == 0 {
			d, _ = disk.Flush(d)
		}
		for other := range has {
			e := api.OK
			if turn[other] == 0 {
				e = api.ErrNone
			}
			reads(t, d, 2*other, has[other], turn[other], e)
		}
	}
}

// All promises, of long rows of calls on slots that have all kinds of things: each answer is what it should be.
func TestRowsOfCalls(t *testing.T) {
	g := rand.New(rand.NewSource(6))
	none := noRecords()
	for range 200 {
		n := 1 + g.Intn(5)
		d, _ := disk.New(n)
		for range 60 {
			base, slot := g.Intn(n+2)-1, g.Intn(n)
			switch g.Intn(12) {
			case 0:
				d, _ = disk.Flush(d)
			case 1:
				d = disk.Crash(d, g.Intn(8)-1, g.Intn(9)-1)
			case 2:
				d = disk.Arm(d, g.Intn(9)-3)
			case 3:
				d, _ = disk.Burst(d, slot, g.Intn(60)-4, g.Uint32())
			case 4:
				d, _ = disk.Put(d, slot, none[g.Intn(len(none))])
			case 5:
				d, _ = disk.Put(d, slot, recordOf(turns[g.Intn(len(turns))], random(g, g.Intn(4))))
			default:
				value := random(g, g.Intn(4))
				if g.Intn(10) == 0 {
					value = random(g, 998+g.Intn(6))
				}
				want, wantE := writeOf(d, base, value)
				writes(t, d, base, value, want, wantE)
				d, _ = Write(d, base, value)
			}
			for base := -1; base <= n; base++ {
				if base < 0 || base+2 > n {
					reads(t, d, base, "", 0, api.ErrArg)
					continue
				}
				value, turn, e, _ := readOf(lastOf(d, base), lastOf(d, base+1))
				reads(t, d, base, value, turn, e)
			}
		}
	}
}

// R3 and R4: what is handed in stays as it is, what comes out is another's, and each call answers the same again.

// calls are all ways of Write, those that are refused too.
func calls() map[string]func(api.Disk) api.Disk {
	first := func(d api.Disk, _ api.Errno) api.Disk { return d }
	return map[string]func(api.Disk) api.Disk{
		"Write":                     func(d api.Disk) api.Disk { return first(Write(d, 0, "new")) },
		"Write of no slots":         func(d api.Disk) api.Disk { return first(Write(d, 3, "new")) },
		"Write of too much":         func(d api.Disk) api.Disk { return first(Write(d, 0, strings.Repeat("x", 1001))) },
		"Write behind the last":     func(d api.Disk) api.Disk { return first(Write(d, 2, "new")) },
		"Write where there is none": func(d api.Disk) api.Disk { return first(Write(d, 1, "new")) },
	}
}

// roomy is a disk whose lists have room behind them, and something in it.
func roomy() (d api.Disk, slots []string, wait []api.Write) {
	slots = []string{recordOf(4, "x"), "", "", recordOf(math.MaxUint64, "y"), "behind", "it"}
	wait = []api.Write{{Slot: 1, Bytes: recordOf(3, "w")}, {Slot: 1, Bytes: ""}, {Slot: 2, Bytes: "behind"}, {Slot: 0, Bytes: "it"}}
	return api.Disk{Slots: slots[:4], Wait: wait[:2], Fuse: 4}, slots, wait
}

// changes are what is done to a disk ahead of a call.
func changes() []func(api.Disk) api.Disk {
	return []func(api.Disk) api.Disk{
		func(d api.Disk) api.Disk { return d },
		func(d api.Disk) api.Disk { return armed(d, 0) },
		off,
	}
}

// overwrite changes all that a disk's lists have.
func overwrite(d api.Disk) {
	for i := range d.Slots {
		d.Slots[i] = "changed"
	}
	for i := range d.Wait {
		d.Wait[i] = api.Write{Slot: 2, Bytes: "changed"}
	}
}

func TestWhatIsHandedInStays(t *testing.T) {
	for name, call := range calls() {
		for _, change := range changes() {
			d, slots, wait := roomy()
			d = change(d)
			hadSlots, hadWait, had := slices.Clone(slots), slices.Clone(wait), told(d)
			once := told(call(d))
			for range 3 {
				if again := told(call(d)); again != once {
					t.Fatalf("%s: %s, and then %s", name, once, again)
				}
			}
			reads(t, d, 0, "x", 4, api.OK)
			if !slices.Equal(slots, hadSlots) || !slices.Equal(wait, hadWait) || told(d) != had {
				t.Fatalf("%s: %q and %#v, which were %q and %#v", name, slots, wait, hadSlots, hadWait)
			}
		}
	}
}

func TestWhatComesOutIsAnothers(t *testing.T) {
	for name, call := range calls() {
		for _, change := range changes() {
			d, _, _ := roomy()
			d = change(d)
			had := told(d)
			one, other := call(d), call(d)
			was := told(one)
			overwrite(other)
			if told(d) != had || told(one) != was {
				t.Fatalf("%s: %s, which was %s, and %s, which was %s", name, told(d), had, told(one), was)
			}
			overwrite(d)
			if told(one) != was {
				t.Fatalf("%s: %s, which was %s", name, told(one), was)
			}
		}
	}
}

// Two ways to go on from one disk don't see each other.
func TestTwoGoOnFromOne(t *testing.T) {
	d, _ := disk.New(2)
	for i := range 40 {
		value := strconv.Itoa(i)
		d, _ = Write(d, 0, value)
		x, _ := Write(d, 0, "x")
		y, _ := Write(d, 0, "y")
		reads(t, d, 0, value, uint64(i)+1, api.OK)
		reads(t, x, 0, "x", uint64(i)+2, api.OK)
		reads(t, y, 0, "y", uint64(i)+2, api.OK)
	}
}
