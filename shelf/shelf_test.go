package shelf

import (
	"fmt"
	"math"
	"math/rand"
	"slices"
	"strconv"
	"strings"
	"testing"

	"hogshead/api"
	"hogshead/crc"
	"hogshead/disk"
	"hogshead/vlq"
)

// Numbers that may be, and such as may not: some are in bounds in fewer bits, or go round to there.
var (
	goodVols = []int{1, 2, 127, 128, 255, 256, 16383, 16384, 65536, 1<<20 - 1, 1 << 20}
	badVols  = []int{0, -1, -2, -127, math.MinInt32, math.MinInt + 1, math.MinInt, 1<<20 + 1, 1<<20 + 2, 1 << 21, math.MaxInt32, 1 << 32, 1<<32 + 1, math.MaxInt}
	goodIdxs = []int{0, 1, 13, 100, 127, 128, 256, 1023, 1024}
	badIdxs  = []int{-1, -2, -1024, math.MinInt32, math.MinInt + 1, math.MinInt, 1025, 1026, 2048, 1 << 20, 1 << 32, 1<<32 + 1, math.MaxInt}
)

// goodTexts are of all lengths at the edges, and some look like what a record has.
func goodTexts() []string {
	g := rand.New(rand.NewSource(1))
	l := []string{"", "a", "\x00", "\x80", "\xff", "wörter", "\x00\x00\x00\x00", record(1, 0, "x"), record(1, 0, "")}
	for _, n := range []int{2, 126, 127, 128, 129, 255, 256, 511, 512} {
		l = append(l, random(g, n))
	}
	return append(l, strings.Repeat("\x00", 512), strings.Repeat("\xff", 512))
}

// badTexts are too long.
func badTexts() []string {
	var l []string
	for _, n := range []int{513, 514, 1000, 1024, 1025, 65536, 65537} {
		l = append(l, strings.Repeat("x", n))
	}
	return l
}

// random is a text of n bytes.
func random(g *rand.Rand, n int) string {
	b := make([]byte, n)
	g.Read(b)
	return string(b)
}

// record is as the chapter's words say, of numbers that may not be, too.
func record(vol, idx int, b string) string {
	return crc.Seal(vlq.Num(uint64(vol)) + vlq.Num(uint64(idx)) + vlq.Text(b))
}

// shard is one.
func shard(vol, idx int, b string) api.Shard { return api.Shard{Vol: vol, Idx: idx, Bytes: b} }

// takeOf is what Take should tell. All that may be there are told by how many bytes each number has: the right ones are those whose record it is.
func takeOf(s string) (api.Shard, bool) {
	number := func(s string) int {
		v := 0
		for i := range len(s) {
			v = 128*v + int(s[i]%128)
		}
		return v
	}
	for n := 1; n <= 3; n++ {
		for m := 1; m <= 2; m++ {
			for long := 1; long <= 2 && n+m+long+4 <= len(s); long++ {
				vol, idx, b := number(s[:n]), number(s[n:n+m]), s[n+m+long:len(s)-4]
				if vol >= 1 && vol <= 1048576 && idx <= 1024 && len(b) <= 512 && record(vol, idx, b) == s {
					return shard(vol, idx, b), true
				}
			}
		}
	}
	return api.Shard{}, false
}

// of is a disk of slots, with writes that wait, of which each is a slot's number and its bytes.
func of(slots []string, wait ...any) api.Disk {
	d := api.Disk{Slots: slots, Fuse: -1}
	for i := 0; i+1 < len(wait); i += 2 {
		d.Wait = append(d.Wait, api.Write{Slot: wait[i].(int), Bytes: wait[i+1].(string)})
	}
	return d
}

// armed is a disk with a Fuse.
func armed(d api.Disk, fuse int) api.Disk {
	d.Fuse = fuse
	return d
}

// off is a disk that ran out.
func off(d api.Disk) api.Disk {
	d.Fuse, d.Off = 0, true
	return d
}

// powers are a disk with power for any writes, for some, for none, and without.
func powers(d api.Disk) []api.Disk {
	return []api.Disk{d, armed(d, -9), armed(d, 5), armed(d, 1), armed(d, 0), off(d)}
}

// told is what a disk is, to be read.
func told(d api.Disk) string { return fmt.Sprintf("%.400s", fmt.Sprintf("%#v", d)) }

// hasOf is what each slot of a disk has, by chapter 8's words.
func hasOf(d api.Disk) []string {
	l := slices.Clone(d.Slots)
	for _, w := range d.Wait {
		if w.Slot >= 0 && w.Slot < len(l) {
			l[w.Slot] = w.Bytes
		}
	}
	return l
}

// at are the numbers of the slots that have a shard of a key, and what these are.
func at(d api.Disk, k api.Key) (slots []int, bytes []string) {
	for i, s := range hasOf(d) {
		if x, ok := takeOf(s); ok && x.Vol == k.Vol && x.Idx == k.Idx {
			slots, bytes = append(slots, i), append(bytes, x.Bytes)
		}
	}
	return slots, bytes
}

// putOf is what Put should tell of a shard.
func putOf(d api.Disk, x api.Shard) (api.Disk, api.Errno) {
	if x.Vol < 1 || x.Vol > 1048576 || x.Idx < 0 || x.Idx > 1024 || len(x.Bytes) > 512 {
		return d, api.ErrArg
	}
	if _, bytes := at(d, api.Key{Vol: x.Vol, Idx: x.Idx}); len(bytes) > 0 {
		if bytes[0] == x.Bytes {
			return d, api.OK
		}
		return d, api.ErrThere
	}
	for i, s := range hasOf(d) {
		_, ok := takeOf(s)
		empty, bad := s == "", s != "" && !ok
		if empty || bad {
			return disk.Put(d, i, record(x.Vol, x.Idx, x.Bytes))
		}
	}
	return d, api.ErrFull
}

// dropOf is what Drop should tell.
func dropOf(d api.Disk, k api.Key) (api.Disk, api.Errno) {
	slots, _ := at(d, k)
	if len(slots) == 0 {
		return d, api.ErrNone
	}
	for _, i := range slots {
		var e api.Errno
		if d, e = disk.Put(d, i, ""); e != api.OK {
			return d, e
		}
	}
	return d, api.OK
}

// isNone fails, if a text is taken.
func isNone(t *testing.T, s string) {
	t.Helper()
	if x, e := Take(s); x != (api.Shard{}) || e != api.ErrForm {
		t.Fatalf("Take(%.80x): %.80q %d", s, x.Bytes, e)
	}
}

// is fails, if a text isn't taken as that shard.
func is(t *testing.T, s string, want api.Shard) {
	t.Helper()
	if x, e := Take(s); x != want || e != api.OK {
		t.Fatalf("Take(%.80x): %d %d %.40q, %d; not %d %d %.40q", s, x.Vol, x.Idx, x.Bytes, e, want.Vol, want.Idx, want.Bytes)
	}
}

// finds holds what Find tells against what it should.
func finds(t *testing.T, d api.Disk, k api.Key, want string, wantE api.Errno) {
	t.Helper()
	if b, e := Find(d, k); b != want || e != wantE {
		t.Fatalf("Find(%s, %d): %.40q %d, not %.40q %d", told(d), k, b, e, want, wantE)
	}
}

// puts holds what Put tells against what it should, and is that.
func puts(t *testing.T, d api.Disk, x api.Shard, want api.Disk, wantE api.Errno) api.Disk {
	t.Helper()
	got, e := Put(d, x)
	if e != wantE || !disk.Same(got, want) {
		t.Fatalf("Put(%s, %d %d %.40q): %s, %d; not %s, %d", told(d), x.Vol, x.Idx, x.Bytes, told(got), e, told(want), wantE)
	}
	return got
}

// drops holds what Drop tells against what it should, and is that.
func drops(t *testing.T, d api.Disk, k api.Key, want api.Disk, wantE api.Errno) api.Disk {
	t.Helper()
	got, e := Drop(d, k)
	if e != wantE || !disk.Same(got, want) {
		t.Fatalf("Drop(%s, %d): %s, %d; not %s, %d", told(d), k, told(got), e, told(want), wantE)
	}
	return got
}

// tells holds what all the calls that only look at a disk tell against what they should.
func tells(t *testing.T, d api.Disk, asked []api.Key) {
	t.Helper()
	var list []api.Key
	var bad []int
	free := 0
	for i, s := range hasOf(d) {
		x, ok := takeOf(s)
		k := api.Key{Vol: x.Vol, Idx: x.Idx}
		switch {
		case s == "":
			free++
		case !ok:
			bad = append(bad, i)
		case !slices.Contains(list, k):
			list = append(list, k)
		}
	}
	if got := List(d); !slices.Equal(got, list) {
		t.Fatalf("List(%s): %v, not %v", told(d), got, list)
	}
	if got := Bad(d); !slices.Equal(got, bad) {
		t.Fatalf("Bad(%s): %v, not %v", told(d), got, bad)
	}
	if got := Free(d); got != free {
		t.Fatalf("Free(%s): %d, not %d", told(d), got, free)
	}
	for _, k := range slices.Concat(list, asked) {
		if _, bytes := at(d, k); len(bytes) > 0 {
			finds(t, d, k, bytes[0], api.OK)
		} else {
			finds(t, d, k, "", api.ErrNone)
		}
	}
}

// noRecords are texts that are none of a shard that may be: some are so in one thing alone.
func noRecords() []string {
	x, long := record(1, 0, "x"), strings.Repeat("x", 513)
	return []string{
		"\x00", "a", "abcd", "abcdefgh", "\x00\x00\x00\x00", "\x00\x00\x00\x00\x00\x00\x00", "\xff\xff\xff\xff\xff\xff\xff",
		// Not sealed, or sealed twice, or by a sum from its other end.
		x[:4], x[:7], x[:4] + "\x00\x00\x00\x00", crc.Seal(x), x[:4] + x[7:] + x[6:7] + x[5:6] + x[4:5],
		// Sealed, but with nothing, or with a beginning alone.
		crc.Seal(""), crc.Seal("\x01"), crc.Seal("\x81"), crc.Seal("\x01\x00"), crc.Seal("\x01\x81"), crc.Seal("\x01\x00\x01"), crc.Seal("\x01\x00\x81"), crc.Seal("\x81\x80"), crc.Seal(strings.Repeat("\xff", 20)),
		// Numbers that aren't written so, or are too great.
		crc.Seal("\x80\x01\x00\x01x"), crc.Seal("\x01\x80\x00\x01x"), crc.Seal("\x01\x00\x80\x01x"), crc.Seal("\x80\x80\x01\x00\x01x"), crc.Seal("\x01\x80\x01\x01x"), crc.Seal("\x01\x00\x80\x00"),
		crc.Seal("\x82" + strings.Repeat("\x80", 8) + "\x01\x00\x01x"), crc.Seal("\x01\x82" + strings.Repeat("\x80", 8) + "\x00\x01x"), crc.Seal("\x01\x00\x82" + strings.Repeat("\x80", 8) + "\x01x"),
		record(1<<20+1, 0, "x"), record(0, 0, "x"), record(-1, 0, "x"), record(1, 1025, "x"), record(1, -1, "x"), record(0, 0, ""), record(0, 5, ""),
		// Fewer bytes than the length says, or more.
		crc.Seal("\x01\x00\x02x"), crc.Seal("\x01\x00\x01"), crc.Seal("\x01\x00\x01xy"), crc.Seal("\x01\x00\x00x"), crc.Seal("\x01\x00\x00\x00"), crc.Seal("\x01\x00\x01x\x00"), crc.Seal("\x01\x00\x01x\x02\x00\x01y"),
		// Bytes that are too many.
		record(1, 0, long), crc.Seal("\x01\x00" + vlq.Num(513) + long[1:]), record(1, 0, strings.Repeat("\x00", 65536)), crc.Seal("\x01\x00" + vlq.Num(math.MaxUint64) + "x"),
		// Something missing, or changed round.
		crc.Seal("\x01\x01x"), crc.Seal("\x01x"), crc.Seal("\x01x\x01"), crc.Seal("\x00\x01\x01x"), crc.Seal("abc"),
		// Something ahead of a record, or behind one.
		"\x00" + x, x + "\x00", x + x, x + record(2, 0, "y"), x + "\x00\x00\x00\x00",
	}
}

// P10.1

func TestMay(t *testing.T) {
	for _, vol := range slices.Concat(goodVols, badVols) {
		for _, idx := range slices.Concat(goodIdxs, badIdxs) {
			for _, b := range slices.Concat(goodTexts(), badTexts()) {
				want := slices.Contains(goodVols, vol) && slices.Contains(goodIdxs, idx) && len(b) <= 512
				if May(shard(vol, idx, b)) != want {
					t.Fatalf("May of %d, %d, %d bytes: not %t", vol, idx, len(b), want)
				}
			}
		}
	}
}

func TestRecordExamples(t *testing.T) {
	for _, r := range []struct {
		x    api.Shard
		want string
	}{
		{shard(1, 0, ""), "\x01\x00\x00\x49\x43\x2e\x78"},
		{shard(1, 0, "ab"), "\x01\x00\x02ab\xe4\x88\x1c\xaf"},
		{shard(127, 100, "\x00"), "\x7f\x64\x01\x00\x89\x38\x7d\x02"},
		{shard(128, 128, "x"), "\x81\x00\x81\x00\x01x\x15\x48\xe2\x0f"},
		{shard(16384, 1000, "\xff\x80"), "\x81\x80\x00\x87\x68\x02\xff\x80\x89\xef\xdd\x15"},
		{shard(300, 13, "sixteen bytes..."), "\x82\x2c\x0d\x10sixteen bytes...\x94\x14\x1f\xa2"},
		{shard(1<<20, 1024, "z"), "\xc0\x80\x00\x88\x00\x01z\x20\x43\xb4\x1c"},
	} {
		if s, e := Record(r.x); s != r.want || e != api.OK {
			t.Errorf("Record(%v): %x %d, not %x", r.x, s, e, r.want)
		}
		is(t, r.want, r.x)
	}
}

// What may be has a record, which is taken; what may not be has none, and what would be its record isn't taken.
func TestRecordAndTake(t *testing.T) {
	for _, vol := range slices.Concat(goodVols, badVols) {
		for _, idx := range slices.Concat(goodIdxs, badIdxs) {
			for _, b := range slices.Concat(goodTexts(), badTexts()) {
				x, want, wantE := shard(vol, idx, b), record(vol, idx, b), api.OK
				if slices.Contains(goodVols, vol) && slices.Contains(goodIdxs, idx) && len(b) <= 512 {
					is(t, want, x)
				} else {
					isNone(t, want)
					want, wantE = "", api.ErrArg
				}
				if s, e := Record(x); s != want || e != wantE {
					t.Fatalf("Record of %d, %d, %d bytes: %.40x %d, not %.40x %d", vol, idx, len(b), s, e, want, wantE)
				}
			}
		}
	}
}

func TestRecordOfEachLength(t *testing.T) {
	long := strings.Repeat("abcdefg", 100)
	for n := range 600 {
		x, want, wantE := shard(7, 8, long[:n]), record(7, 8, long[:n]), api.OK
		if n <= 512 {
			is(t, want, x)
		} else {
			isNone(t, want)
			want, wantE = "", api.ErrArg
		}
		if s, e := Record(x); s != want || e != wantE || May(x) != (n <= 512) {
			t.Fatalf("Record of %d bytes: %.40x %d, not %d", n, s, e, wantE)
		}
	}
}

// Two shards don't have one record, wherever one number ends and the next begins.
func TestEachShardHasItsOwnRecord(t *testing.T) {
	was := map[string]api.Shard{}
	for vol := 1; vol < 140; vol++ {
		for idx := range 140 {
			for _, b := range []string{"", "\x00", "\x01", "\x00\x00"} {
				s, _ := Record(shard(vol, idx, b))
				if other, ok := was[s]; ok {
					t.Fatalf("%v and %d %d %q", other, vol, idx, b)
				}
				was[s] = shard(vol, idx, b)
			}
		}
	}
}

func TestTakeRefuses(t *testing.T) {
	for _, s := range append(noRecords(), "") {
		if _, ok := takeOf(s); ok {
			t.Fatalf("%.40x is a record", s)
		}
		isNone(t, s)
	}
}

// Short texts that are sealed: many are almost a record, and some are one.
func TestTakeOfShortTexts(t *testing.T) {
	g := rand.New(rand.NewSource(2))
	heads := []string{"", "\x80", "\xff", "\x81", "\x81\x80", "\x81" + strings.Repeat("\x80", 8), "\x01\x87", "\x01\x00\x03", "\xc0\x80", "\xbf\xff"}
	records := 0
	for range 60000 {
		b := []byte(heads[g.Intn(len(heads))] + random(g, g.Intn(5)))
		// Small bytes make lengths that fit.
		for i := range b {
			if g.Intn(2) == 0 {
				b[i] %= 4
			}
		}
		s := crc.Seal(string(b))
		x, ok := takeOf(s)
		if !ok {
			isNone(t, s)
			continue
		}
		records++
		is(t, s, x)
	}
	if records < 100 || records > 59900 {
		t.Fatalf("%d were records", records)
	}
}

func TestTakeOfWhatWasTurnedRound(t *testing.T) {
	g := rand.New(rand.NewSource(3))
	for _, s := range []string{record(1, 0, ""), record(1, 0, "x"), record(300, 13, "abcdefghij"), record(1<<20, 1024, "\x00\xff")} {
		d := of([]string{s})
		for place := range 8*len(s) - 31 {
			for _, bits := range []uint32{1, 1 << 31, math.MaxUint32, 3 << 15, g.Uint32() | 1, g.Uint32() | 1<<31} {
				hit, e := disk.Burst(d, 0, place, bits)
				if e != api.OK {
					t.Fatal(e)
				}
				isNone(t, hit.Slots[0])
			}
		}
	}
}

// P10.2

// Keys, and such as the disks here have no shard of.
var (
	one, two, three = api.Key{Vol: 1}, api.Key{Vol: 2}, api.Key{Vol: 1, Idx: 2}
	none            = []api.Key{{}, {Vol: 0, Idx: 1}, {Vol: 3}, {Vol: 2, Idx: 1}, {Vol: -1}, {Vol: 1, Idx: -1}, {Vol: 1, Idx: 1025}, {Vol: 1<<20 + 1}, {Vol: 1 << 32, Idx: 1 << 32}, {Vol: 1<<32 + 1}, {Vol: math.MinInt, Idx: math.MinInt}, {Vol: math.MaxInt, Idx: math.MaxInt}}
)

func TestLookingExamples(t *testing.T) {
	a, b, c, torn := record(1, 0, "a"), record(2, 0, "b"), record(1, 2, ""), record(1, 0, "a")[:6]
	for _, x := range []struct {
		d    api.Disk
		list []api.Key
		bad  []int
		free int
	}{
		{of(nil), nil, nil, 0},
		{of([]string{""}), nil, nil, 1},
		{of([]string{"", "", ""}), nil, nil, 3},
		{of([]string{a}), []api.Key{one}, nil, 0},
		{of([]string{"", a}), []api.Key{one}, nil, 1},
		// In the slots' order, not the keys'.
		{of([]string{a, b, c}), []api.Key{one, two, three}, nil, 0},
		{of([]string{b, "", c, a}), []api.Key{two, three, one}, nil, 1},
		// Each once, where it is first.
		{of([]string{a, a}), []api.Key{one}, nil, 0},
		{of([]string{b, a, b, c, a, b}), []api.Key{two, one, three}, nil, 0},
		{of([]string{record(1, 0, "x"), "", a}), []api.Key{one}, nil, 1},
		// Bad ones are none, and aren't empty.
		{of([]string{torn}), nil, []int{0}, 0},
		{of([]string{"x", "", torn, a, "\x00"}), []api.Key{one}, []int{0, 2, 4}, 1},
		{of([]string{a, record(0, 0, "a"), record(1, 1025, "a"), record(1<<20+1, 0, "a"), record(1, 0, strings.Repeat("a", 513)), b}), []api.Key{one, two}, []int{1, 2, 3, 4}, 0},
		// By what waits, the last of it.
		{of([]string{""}, 0, a), []api.Key{one}, nil, 0},
		{of([]string{a, b}, 0, ""), []api.Key{two}, nil, 1},
		{of([]string{a, b}, 0, "", 0, c), []api.Key{three, two}, nil, 0},
		{of([]string{a, b}, 1, c, 1, torn), []api.Key{one}, []int{1}, 0},
		{of([]string{"bad", "bad"}, 1, "", 0, b), []api.Key{two}, nil, 1},
		// What waits for a slot that isn't there is nowhere.
		{of([]string{"", a}, 2, b, -1, c, math.MaxInt, "x", math.MinInt, ""), []api.Key{one}, nil, 1},
		{of(nil, 0, a), nil, nil, 0},
		// As many slots, and bytes, as no disk has.
		{of(append(slices.Repeat([]string{""}, 299), a, strings.Repeat("x", 3000))), []api.Key{one}, []int{300}, 299},
	} {
		for _, d := range powers(x.d) {
			if list := List(d); !slices.Equal(list, x.list) {
				t.Errorf("List(%s): %v, not %v", told(d), list, x.list)
			}
			if bad := Bad(d); !slices.Equal(bad, x.bad) {
				t.Errorf("Bad(%s): %v, not %v", told(d), bad, x.bad)
			}
			if free := Free(d); free != x.free {
				t.Errorf("Free(%s): %d, not %d", told(d), free, x.free)
			}
			tells(t, d, slices.Concat(none, []api.Key{one, two, three}))
		}
	}
}

func TestFindExamples(t *testing.T) {
	a, other, empty := record(1, 0, "a"), record(1, 0, "other"), record(1, 0, "")
	for _, x := range []struct {
		d    api.Disk
		want string
		e    api.Errno
	}{
		{of(nil), "", api.ErrNone},
		{of([]string{""}), "", api.ErrNone},
		{of([]string{a}), "a", api.OK},
		{of([]string{empty}), "", api.OK},
		// The first one.
		{of([]string{a, other}), "a", api.OK},
		{of([]string{"", "bad", other, a, empty}), "other", api.OK},
		{of([]string{empty, a}), "", api.OK},
		{of([]string{record(2, 0, "b"), record(1, 1, "c"), a}), "a", api.OK},
		// Both numbers make the key.
		{of([]string{record(1, 1, "a"), record(2, 0, "a"), record(1, 1024, "a")}), "", api.ErrNone},
		{of([]string{a[:len(a)-1], a + "x"}), "", api.ErrNone},
		// What waits.
		{of([]string{"", a}, 0, other), "other", api.OK},
		{of([]string{a, other}, 0, ""), "other", api.OK},
		{of([]string{a, other}, 1, "", 0, "bad"), "", api.ErrNone},
		{of([]string{""}, 1, a), "", api.ErrNone},
	} {
		for _, d := range powers(x.d) {
			finds(t, d, one, x.want, x.e)
			for _, k := range none {
				finds(t, d, k, "", api.ErrNone)
			}
		}
	}
}

func TestEachSlotIsLookedAt(t *testing.T) {
	for _, n := range []int{1, 2, 96, 256} {
		for i := range n {
			d, _ := disk.New(n)
			d.Slots[i] = record(5, i, strconv.Itoa(i))
			finds(t, d, api.Key{Vol: 5, Idx: i}, strconv.Itoa(i), api.OK)
			if l := List(d); len(l) != 1 || l[0] != (api.Key{Vol: 5, Idx: i}) || Free(d) != n-1 || len(Bad(d)) != 0 {
				t.Fatalf("the slot %d of %d: %v %v %d", i, n, l, Bad(d), Free(d))
			}
			d.Slots[i] = "bad"
			if l := Bad(d); len(l) != 1 || l[0] != i || Free(d) != n-1 || len(List(d)) != 0 {
				t.Fatalf("the slot %d of %d: %v", i, n, l)
			}
		}
	}
}

// P10.3

func TestPutExamples(t *testing.T) {
	a, b, torn := record(1, 0, "a"), record(2, 0, "b"), record(1, 0, "a")[:6]
	x := shard(1, 0, "a")
	for _, c := range []struct {
		d    api.Disk
		slot int
	}{
		// Into the first slot that is empty or bad.
		{of([]string{""}), 0},
		{of([]string{"", "", ""}), 0},
		{of([]string{b, "", ""}), 1},
		{of([]string{b, record(1, 1, "a"), record(3, 0, "a"), ""}), 3},
		{of([]string{"bad"}), 0},
		{of([]string{"bad", ""}), 0},
		{of([]string{"", "bad"}), 0},
		{of([]string{b, torn, ""}), 1},
		{of([]string{b, "", torn}), 1},
		{of([]string{b, b, record(0, 0, "c"), ""}), 2},
		{of([]string{record(1, 0, strings.Repeat("x", 513)), ""}), 0},
		// By what waits.
		{of([]string{"", ""}, 0, b), 1},
		{of([]string{b, ""}, 0, ""), 0},
		{of([]string{a, ""}, 0, "bad"), 0},
		{of([]string{b, ""}, 0, b, 1, "bad", 0, ""), 0},
		{of([]string{b, "", ""}, 1, a, 1, b, 3, a, -1, a), 2},
	} {
		for _, d := range powers(c.d) {
			want, wantE := disk.Put(d, c.slot, a)
			got := puts(t, d, x, want, wantE)
			if !d.Off {
				finds(t, got, one, "a", api.OK)
			}
		}
	}
}

func TestPutOfWhatIsThere(t *testing.T) {
	a, b, other := record(1, 0, "a"), record(2, 0, "b"), record(1, 0, "other")
	for _, x := range []struct {
		d     api.Disk
		first string
	}{
		{of([]string{a}), "a"},
		{of([]string{"", a}), "a"},
		{of([]string{"bad", b, a, ""}), "a"},
		{of([]string{a, other}), "a"},
		{of([]string{other, a}), "other"},
		{of([]string{record(1, 0, ""), a, ""}), ""},
		{of([]string{""}, 0, a), "a"},
		{of([]string{a, other}, 0, ""), "other"},
		{of([]string{a}, 0, other), "other"},
	} {
		// It is told of ahead of the power.
		for _, d := range powers(x.d) {
			for _, bytes := range []string{"", "a", "other", "A", "aa", "othes", strings.Repeat("a", 512)} {
				want := api.ErrThere
				if bytes == x.first {
					want = api.OK
				}
				puts(t, d, shard(1, 0, bytes), d, want)
			}
		}
	}
}

// What may not be is told of ahead of all else; what is full, ahead of the power.
func TestPutRefuses(t *testing.T) {
	a, b := record(1, 0, "a"), record(2, 0, "b")
	for _, d := range []api.Disk{of(nil), of([]string{""}), of([]string{a, b}), of([]string{"bad", a}), of([]string{record(0, 0, "a"), record(-1, -1, "a")}, 0, record(1, 1025, "a"))} {
		for _, d := range powers(d) {
			for _, vol := range badVols {
				puts(t, d, shard(vol, 0, "a"), d, api.ErrArg)
			}
			for _, idx := range badIdxs {
				puts(t, d, shard(1, idx, "a"), d, api.ErrArg)
			}
			for _, b := range badTexts() {
				puts(t, d, shard(1, 0, b), d, api.ErrArg)
			}
		}
	}
	for _, d := range []api.Disk{of(nil), of(nil, 0, a), of([]string{a}), of([]string{a, b}), of([]string{a, a}), of([]string{"", "bad"}, 0, a, 1, b)} {
		for _, d := range powers(d) {
			puts(t, d, shard(3, 0, "a"), d, api.ErrFull)
		}
	}
}

// All numbers and lengths at the edges go in, and are there.
func TestPutOfAllThatMayBe(t *testing.T) {
	for _, vol := range goodVols {
		for _, idx := range goodIdxs {
			for _, b := range goodTexts() {
				d := of([]string{record(3, 3, "three"), ""})
				want, _ := disk.Put(d, 1, record(vol, idx, b))
				got := puts(t, d, shard(vol, idx, b), want, api.OK)
				finds(t, got, api.Key{Vol: vol, Idx: idx}, b, api.OK)
				puts(t, got, shard(vol, idx, b), got, api.OK)
				want, _ = disk.Put(got, 1, "")
				drops(t, got, api.Key{Vol: vol, Idx: idx}, want, api.OK)
			}
		}
	}
}

func TestDropExamples(t *testing.T) {
	a, b, other := record(1, 0, "a"), record(2, 0, "b"), record(1, 0, "other")
	for _, x := range []struct {
		d     api.Disk
		slots []int
	}{
		{of([]string{a}), []int{0}},
		{of([]string{"", a}), []int{1}},
		{of([]string{b, a, "", "bad"}), []int{1}},
		// All that have one, in order, whatever its Bytes are.
		{of([]string{a, a}), []int{0, 1}},
		{of([]string{other, b, a, "bad", other, ""}), []int{0, 2, 4}},
		{of(slices.Repeat([]string{a}, 256)), slices.Collect(func(yield func(int) bool) {
			for i := range 256 {
				yield(i)
			}
		})},
		// By what waits.
		{of([]string{"", ""}, 1, a), []int{1}},
		{of([]string{a, a, a}, 1, "", 2, b), []int{0}},
		{of([]string{a, "", b}, 2, other, 0, other, 3, a), []int{0, 2}},
	} {
		for _, fuse := range []int{-9, -1, 0, 1, 2, 3, 4, 1000} {
			d := armed(x.d, fuse)
			want, e := d, api.OK
			for _, slot := range x.slots {
				if want, e = disk.Put(want, slot, ""); e != api.OK {
					break
				}
			}
			got := drops(t, d, one, want, e)
			if dead := fuse >= 0 && fuse < len(x.slots); dead != (e == api.ErrDead) || dead && len(got.Wait) != len(d.Wait)+fuse+1 {
				t.Fatalf("Drop(%s): %s, %d", told(d), told(got), e)
			}
			if e == api.OK {
				finds(t, got, one, "", api.ErrNone)
				drops(t, got, one, got, api.ErrNone)
			}
		}
		drops(t, off(x.d), one, off(x.d), api.ErrDead)
	}
}

func TestDropRefuses(t *testing.T) {
	a, b := record(1, 0, "a"), record(2, 0, "b")
	for _, d := range []api.Disk{of(nil), of(nil, 0, a), of([]string{""}), of([]string{"bad", record(0, 0, "x"), record(1, 1025, "x"), record(-1, 0, "x")}), of([]string{a, b, a})} {
		// It is told of ahead of the power.
		for _, d := range powers(d) {
			for _, k := range none {
				drops(t, d, k, d, api.ErrNone)
			}
		}
	}
}

// kinds are things that a slot may have, of few keys.
func kinds() []string {
	l := []string{"", "", "bad", record(1, 0, "a")[:6], record(0, 0, "a"), record(1, 1025, "a"), record(1, 0, "a") + "x"}
	for _, k := range []api.Key{one, two, three} {
		l = append(l, record(k.Vol, k.Idx, "a"), record(k.Vol, k.Idx, "b"), record(k.Vol, k.Idx, ""))
	}
	return l
}

// All of P10.2 and P10.3, of all kinds of disks.
func TestDisksOfAllKinds(t *testing.T) {
	g := rand.New(rand.NewSource(4))
	l := kinds()
	for range 6000 {
		d := api.Disk{Fuse: g.Intn(7) - 2, Off: g.Intn(6) == 0}
		for range g.Intn(7) {
			d.Slots = append(d.Slots, l[g.Intn(len(l))])
		}
		for range g.Intn(5) {
			d.Wait = append(d.Wait, api.Write{Slot: g.Intn(len(d.Slots)+3) - 1, Bytes: l[g.Intn(len(l))]})
		}
		tells(t, d, []api.Key{one, two, three, {Vol: 2, Idx: 2}, {}})
		for _, k := range []api.Key{one, two, three, {Vol: 2, Idx: 2}, {}, {Vol: 1, Idx: 1025}} {
			want, wantE := dropOf(d, k)
			drops(t, d, k, want, wantE)
			for _, b := range []string{"a", "b", "", "c"} {
				want, wantE := putOf(d, shard(k.Vol, k.Idx, b))
				puts(t, d, shard(k.Vol, k.Idx, b), want, wantE)
			}
		}
	}
}

// A shelf is filled to its last slot, emptied, and filled again.
func TestAWholeShelf(t *testing.T) {
	for _, n := range []int{1, 2, 14, 96, 256} {
		d, _ := disk.New(n)
		for turn := range 2 {
			for i := range n {
				want, wantE := disk.Put(d, i, record(i+1, turn, strconv.Itoa(i)))
				d = puts(t, d, shard(i+1, turn, strconv.Itoa(i)), want, wantE)
				if Free(d) != n-i-1 || len(List(d)) != i+1 {
					t.Fatalf("%d slots, %d shards: %d %d", n, i+1, Free(d), len(List(d)))
				}
			}
			puts(t, d, shard(n+1, turn, ""), d, api.ErrFull)
			d, _ = disk.Flush(d)
			for i := range n {
				want, wantE := disk.Put(d, i, "")
				d = drops(t, d, api.Key{Vol: i + 1, Idx: turn}, want, wantE)
			}
			if Free(d) != n {
				t.Fatalf("%d slots: %d", n, Free(d))
			}
		}
	}
}

// P10.4

func TestTheChaptersExample(t *testing.T) {
	d, _ := disk.New(3)
	d, e := Put(d, shard(1, 0, "ab"))
	if l := List(d); e != api.OK || len(l) != 1 || l[0] != one {
		t.Fatalf("%v %d", l, e)
	}
	puts(t, d, shard(1, 0, "cd"), d, api.ErrThere)
}

func TestABeginningIsNone(t *testing.T) {
	for _, vol := range goodVols {
		for _, idx := range goodIdxs {
			for _, b := range goodTexts() {
				s := record(vol, idx, b)
				for n := range len(s) {
					if n < 16 || n > len(s)-12 || n%53 == 0 {
						isNone(t, s[:n])
					}
				}
			}
		}
	}
}

// a history is what a crash can't take (what was found when nothing waited, and wasn't dropped since), and what may be found behind one: that, and what was put since.
type history struct {
	safe map[api.Key]string
	may  []api.Shard
}

// settle makes safe what is found, and that alone.
func (h *history) settle(d api.Disk) {
	h.safe, h.may = map[api.Key]string{}, nil
	for _, k := range List(d) {
		b, _ := Find(d, k)
		h.safe[k], h.may = b, append(h.may, shard(k.Vol, k.Idx, b))
	}
}

// holds fails, if something that is safe isn't found, or something is listed that isn't found, or may not be.
func (h *history) holds(t *testing.T, d api.Disk, what string) {
	t.Helper()
	for k, want := range h.safe {
		if b, e := Find(d, k); b != want || e != api.OK {
			t.Fatalf("%s: %v is %.20q %d, not %.20q", what, k, b, e, want)
		}
	}
	for _, k := range List(d) {
		b, e := Find(d, k)
		if e != api.OK || !slices.Contains(h.may, shard(k.Vol, k.Idx, b)) {
			t.Fatalf("%s: %v is %.20q %d", what, k, b, e)
		}
	}
}

// everyCrash fails, if the history doesn't hold now, or behind one of them, or behind one more.
func (h *history) everyCrash(t *testing.T, d api.Disk) {
	t.Helper()
	h.holds(t, d, told(d))
	for keep := -1; keep <= len(d.Wait)+1; keep++ {
		long := 2
		if i := max(keep, 0); i < len(d.Wait) {
			long += len(d.Wait[i].Bytes)
		}
		for tear := -1; tear < long; tear++ {
			behind := disk.Crash(d, keep, tear)
			what := fmt.Sprintf("Crash(%s, %d, %d)", told(d), keep, tear)
			h.holds(t, behind, what)
			if again := disk.Crash(behind, keep, tear); !slices.Equal(List(again), List(behind)) {
				t.Fatalf("%s, and again: %v, not %v", what, List(again), List(behind))
			}
		}
	}
}

func TestBehindEveryCrash(t *testing.T) {
	g := rand.New(rand.NewSource(5))
	for range 60 {
		d, _ := disk.New(1 + g.Intn(5))
		h := history{}
		for i := range 30 {
			k, was := api.Key{Vol: 1 + g.Intn(3), Idx: g.Intn(2)}, d
			var e api.Errno
			switch g.Intn(9) {
			case 0, 1:
				if d, e = disk.Flush(d); e == api.OK {
					h.settle(d)
				}
			case 2:
				d = disk.Crash(d, g.Intn(4)-1, g.Intn(12)-1)
				h.holds(t, d, "behind a crash")
				h.settle(d)
			case 3:
				d = disk.Arm(d, g.Intn(6)-3)
			case 4, 5:
				if d, e = Drop(d, k); e == api.OK {
					finds(t, d, k, "", api.ErrNone)
				}
				// At the Fuse's end it waits all the same, and so does what is put.
				if !disk.Same(was, d) {
					delete(h.safe, k)
				}
			default:
				x := shard(k.Vol, k.Idx, strconv.Itoa(i)[:1]+random(g, g.Intn(3)))
				if d, e = Put(d, x); e == api.OK {
					finds(t, d, k, x.Bytes, api.OK)
				}
				if !disk.Same(was, d) {
					h.may = append(h.may, x)
				}
			}
			h.everyCrash(t, d)
		}
	}
}

// What was dropped and flushed doesn't come again.
func TestWhatWasDroppedIsGone(t *testing.T) {
	a := record(1, 0, "a")
	d, e := Drop(of([]string{a, record(2, 0, "b"), a}), one)
	if e != api.OK {
		t.Fatal(e)
	}
	finds(t, d, one, "", api.ErrNone)
	// A crash that comes first brings back what it doesn't keep of it.
	for keep, want := range []api.Errno{api.OK, api.OK, api.ErrNone} {
		if _, e := Find(disk.Crash(d, keep, -1), one); e != want {
			t.Fatalf("%d kept: %d", keep, e)
		}
	}
	d, _ = disk.Flush(d)
	for keep := range 4 {
		for tear := -1; tear < 4; tear++ {
			finds(t, disk.Crash(d, keep, tear), one, "", api.ErrNone)
			finds(t, disk.Crash(d, keep, tear), two, "b", api.OK)
		}
	}
}

// The write at which the power goes is found, too, as long as there is no crash; none is behind that.
func TestTheLastWriteIsFound(t *testing.T) {
	d, _ := disk.New(3)
	d, _ = Put(d, shard(1, 0, "a"))
	d, _ = disk.Flush(d)
	d, e := Put(disk.Arm(d, 0), shard(2, 0, "b"))
	if e != api.ErrDead {
		t.Fatal(e)
	}
	finds(t, d, two, "b", api.OK)
	puts(t, d, shard(1, 2, "c"), d, api.ErrDead)
	drops(t, d, one, d, api.ErrDead)
	finds(t, d, one, "a", api.OK)
	finds(t, disk.Crash(d, 0, 3), two, "", api.ErrNone)
	finds(t, disk.Crash(d, 0, 99), two, "b", api.OK)
}

// What a burst hits isn't found, its slot is bad, and is written anew; the others stay.
func TestBursts(t *testing.T) {
	d := of([]string{record(1, 0, "a"), record(2, 0, "bcd"), record(1, 2, "")})
	for slot, k := range []api.Key{one, two, three} {
		was, _ := Find(d, k)
		for place := range 8*len(d.Slots[slot]) - 31 {
			hit, e := disk.Burst(d, slot, place, 1<<31|uint32(place)*77)
			if e != api.OK {
				t.Fatal(e)
			}
			finds(t, hit, k, "", api.ErrNone)
			if bad := Bad(hit); len(bad) != 1 || bad[0] != slot || len(List(hit)) != 2 || Free(hit) != 0 {
				t.Fatalf("%s: %v %v %d", told(hit), bad, List(hit), Free(hit))
			}
			drops(t, hit, k, hit, api.ErrNone)
			want, _ := disk.Put(hit, slot, d.Slots[slot])
			again := puts(t, hit, shard(k.Vol, k.Idx, was), want, api.OK)
			if !slices.Equal(List(again), List(d)) || len(Bad(again)) != 0 {
				t.Fatalf("%s: %v", told(again), List(again))
			}
		}
	}
}

// All promises, of long rows of calls.
func TestRowsOfCalls(t *testing.T) {
	g := rand.New(rand.NewSource(6))
	l := kinds()
	for range 100 {
		n := 1 + g.Intn(6)
		d, _ := disk.New(n)
		for range 60 {
			k := api.Key{Vol: g.Intn(4), Idx: g.Intn(2)}
			switch g.Intn(12) {
			case 0:
				d, _ = disk.Flush(d)
			case 1:
				d = disk.Crash(d, g.Intn(8)-1, g.Intn(9)-1)
			case 2:
				d = disk.Arm(d, g.Intn(9)-3)
			case 3:
				d, _ = disk.Burst(d, g.Intn(n), g.Intn(40), g.Uint32())
			case 4:
				d, _ = disk.Put(d, g.Intn(n), l[g.Intn(len(l))])
			case 5, 6:
				want, wantE := dropOf(d, k)
				d = drops(t, d, k, want, wantE)
			default:
				x := shard(k.Vol, k.Idx, random(g, g.Intn(2)))
				want, wantE := putOf(d, x)
				d = puts(t, d, x, want, wantE)
			}
			tells(t, d, []api.Key{k, {Vol: 1}, {Vol: 1, Idx: 1}})
		}
	}
}

// R3 and R4: what is handed in stays as it is, what comes out is another's, and each call answers the same again.

// calls are all ways of Put and Drop, those that are refused too.
func calls() map[string]func(api.Disk) api.Disk {
	first := func(d api.Disk, _ api.Errno) api.Disk { return d }
	return map[string]func(api.Disk) api.Disk{
		"Put":                   func(d api.Disk) api.Disk { return first(Put(d, shard(7, 0, "new"))) },
		"Put of what may not":   func(d api.Disk) api.Disk { return first(Put(d, shard(0, 0, "new"))) },
		"Put of what is there":  func(d api.Disk) api.Disk { return first(Put(d, shard(1, 0, "a"))) },
		"Put of another":        func(d api.Disk) api.Disk { return first(Put(d, shard(1, 0, "b"))) },
		"Drop":                  func(d api.Disk) api.Disk { return first(Drop(d, one)) },
		"Drop of what is none":  func(d api.Disk) api.Disk { return first(Drop(d, api.Key{Vol: 9})) },
		"Drop, and then a Put":  func(d api.Disk) api.Disk { d, _ = Drop(d, one); return first(Put(d, shard(1, 0, "b"))) },
		"Put, and then another": func(d api.Disk) api.Disk { d, _ = Put(d, shard(7, 0, "")); return first(Put(d, shard(8, 0, ""))) },
	}
}

// roomy is a disk whose lists have room behind them, and something in it: one slot is empty, by what waits.
func roomy() (d api.Disk, slots []string, wait []api.Write) {
	slots = []string{record(2, 0, "b"), record(1, 0, "a"), record(3, 0, "x"), record(1, 0, "a"), "behind", "it"}
	wait = []api.Write{{Slot: 0, Bytes: record(4, 0, "w")}, {Slot: 2, Bytes: ""}, {Slot: 2, Bytes: "behind"}, {Slot: 0, Bytes: "it"}}
	return api.Disk{Slots: slots[:4], Wait: wait[:2], Fuse: 4}, slots, wait
}

// changes are what is done to a disk ahead of a call.
func changes() []func(api.Disk) api.Disk {
	return []func(api.Disk) api.Disk{
		func(d api.Disk) api.Disk { return d },
		func(d api.Disk) api.Disk { return armed(d, 0) },
		func(d api.Disk) api.Disk { return armed(d, 1) },
		// All is full.
		func(d api.Disk) api.Disk { d.Wait = d.Wait[:1]; return d },
		off,
	}
}

// deep is a disk with lists of its own.
func deep(d api.Disk) api.Disk {
	d.Slots, d.Wait = slices.Clone(d.Slots), slices.Clone(d.Wait)
	return d
}

// overwrite changes all that a disk's lists have.
func overwrite(d api.Disk) {
	for i := range d.Slots {
		d.Slots[i] = "changed"
	}
	for i := range d.Wait {
		d.Wait[i] = api.Write{Slot: 2, Bytes: "changed"}
	}
}

func TestWhatIsHandedInStays(t *testing.T) {
	for name, call := range calls() {
		for _, change := range changes() {
			d, slots, wait := roomy()
			d = change(d)
			hadSlots, hadWait, had := slices.Clone(slots), slices.Clone(wait), deep(d)
			once := call(d)
			for range 3 {
				if again := call(d); !disk.Same(again, once) {
					t.Fatalf("%s: %s, and then %s", name, told(once), told(again))
				}
			}
			tells(t, d, none)
			if !slices.Equal(slots, hadSlots) || !slices.Equal(wait, hadWait) || !disk.Same(d, had) {
				t.Fatalf("%s: %q and %#v, which were %q and %#v", name, slots, wait, hadSlots, hadWait)
			}
		}
	}
}

func TestWhatComesOutIsAnothers(t *testing.T) {
	for name, call := range calls() {
		for _, change := range changes() {
			d, _, _ := roomy()
			d = change(d)
			had := deep(d)
			first, other := call(d), call(d)
			was := deep(first)
			overwrite(other)
			if !disk.Same(d, had) || !disk.Same(first, was) {
				t.Fatalf("%s: %s, which was %s, and %s, which was %s", name, told(d), told(had), told(first), told(was))
			}
			overwrite(d)
			if !disk.Same(first, was) {
				t.Fatalf("%s: %s, which was %s", name, told(first), told(was))
			}
		}
	}
	// Lists are made anew.
	d := of([]string{record(1, 0, "a"), "bad"})
	list, bad := List(d), Bad(d)
	list[0], bad[0] = two, 9
	if l, b := List(d), Bad(d); l[0] != one || b[0] != 1 {
		t.Fatalf("%v %v", l, b)
	}
}

// Two ways to go on from one disk don't see each other.
func TestTwoGoOnFromOne(t *testing.T) {
	d, _ := disk.New(60)
	for i := range 40 {
		d, _ = Put(d, shard(1, i, "d"))
		x, _ := Put(d, shard(2, 0, "x"))
		y, _ := Put(d, shard(2, 0, "y"))
		z, _ := Drop(d, api.Key{Vol: 1, Idx: i})
		finds(t, d, two, "", api.ErrNone)
		finds(t, x, two, "x", api.OK)
		finds(t, y, two, "y", api.OK)
		finds(t, z, api.Key{Vol: 1, Idx: i}, "", api.ErrNone)
		finds(t, d, api.Key{Vol: 1, Idx: i}, "d", api.OK)
	}
}
