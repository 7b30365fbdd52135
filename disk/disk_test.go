package disk

import (
	"fmt"
	"math"
	"math/big"
	"math/rand"
	"slices"
	"strconv"
	"strings"
	"testing"

	"hogshead/api"
)

// below are numbers below 0.
var below = []int{-1, -2, -3, -256, math.MinInt32, math.MinInt + 1, math.MinInt}

// Numbers that are far above all slots, writes and places: some go round with 32, or with 1, and some are in bounds in fewer bits.
var far = []int{1 << 16, 1<<16 + 1, math.MaxInt32 - 31, math.MaxInt32, 1 << 32, 1<<32 + 1, 1 << 61, 1<<61 + 1, math.MaxInt - 32, math.MaxInt - 31, math.MaxInt - 30, math.MaxInt - 1, math.MaxInt}

// of is a disk of slots, with writes that wait, of which each is a slot's number and its bytes.
func of(slots []string, wait ...any) api.Disk {
	d := api.Disk{Slots: slots, Fuse: -1}
	for i := 0; i+1 < len(wait); i += 2 {
		d.Wait = append(d.Wait, api.Write{Slot: wait[i].(int), Bytes: wait[i+1].(string)})
	}
	return d
}

// armed is a disk with a Fuse.
func armed(d api.Disk, fuse int) api.Disk {
	d.Fuse = fuse
	return d
}

// off is a disk that ran out.
func off(d api.Disk) api.Disk {
	d.Fuse, d.Off = 0, true
	return d
}

// told is all of a disk, to be held against another's, and to be read.
func told(d api.Disk) string {
	var s strings.Builder
	s.WriteString("slots")
	for _, slot := range d.Slots {
		s.WriteString(" " + strconv.Quote(slot))
	}
	s.WriteString(", waiting")
	for _, w := range d.Wait {
		s.WriteString(" " + strconv.Itoa(w.Slot) + " " + strconv.Quote(w.Bytes))
	}
	return s.String() + ", fuse " + strconv.Itoa(d.Fuse) + ", off " + strconv.FormatBool(d.Off)
}

// deep is a disk with lists of its own.
func deep(d api.Disk) api.Disk {
	d.Slots = append([]string{}, d.Slots...)
	d.Wait = append([]api.Write{}, d.Wait...)
	return d
}

// a model is a disk as all that was ever done to it: nothing is written over.
type model struct {
	slots int
	done  []api.Write
	wait  []api.Write
	fuse  int
	off   bool
}

// modelOf is that of a disk.
func modelOf(d api.Disk) *model {
	m := &model{slots: len(d.Slots), wait: slices.Clone(d.Wait), fuse: d.Fuse, off: d.Off}
	for i, s := range d.Slots {
		m.done = append(m.done, api.Write{Slot: i, Bytes: s})
	}
	return m
}

// disk is what it has come to.
func (m *model) disk() api.Disk {
	d := api.Disk{Wait: m.wait, Fuse: m.fuse, Off: m.off}
	for slot := range m.slots {
		d.Slots = append(d.Slots, lastOf(m.done, slot))
	}
	return d
}

// lastOf is what the last write of a slot has; all slots begin empty.
func lastOf(l []api.Write, slot int) string {
	s := ""
	for _, w := range l {
		if w.Slot == slot {
			s = w.Bytes
		}
	}
	return s
}

func (m *model) put(slot int, s string) api.Errno {
	if m.off {
		return api.ErrDead
	}
	if slot < 0 || slot >= m.slots {
		return api.ErrArg
	}
	if len(s) > 1024 {
		return api.ErrBig
	}
	m.wait = append(slices.Clone(m.wait), api.Write{Slot: slot, Bytes: s})
	if m.fuse == 0 {
		m.off = true
		return api.ErrDead
	}
	if m.fuse > 0 {
		m.fuse--
	}
	return api.OK
}

func (m *model) get(slot int) (string, api.Errno) {
	if slot < 0 || slot >= m.slots {
		return "", api.ErrArg
	}
	return lastOf(slices.Concat(m.done, m.wait), slot), api.OK
}

func (m *model) flush() api.Errno {
	if m.off {
		return api.ErrDead
	}
	m.done, m.wait = slices.Concat(m.done, m.wait), nil
	return api.OK
}

func (m *model) crash(keep, tear int) {
	for i, w := range m.wait {
		if i < keep {
			m.done = append(m.done, w)
		}
		if i == max(keep, 0) && tear >= 0 {
			if tear < len(w.Bytes) {
				w.Bytes = w.Bytes[:tear]
			}
			m.done = append(m.done, w)
		}
	}
	m.wait, m.fuse, m.off = nil, -1, false
}

func (m *model) arm(fuse int) {
	m.fuse = fuse
	if fuse < 0 {
		m.fuse = -1
	}
}

func (m *model) burst(slot, at int, bits uint32) api.Errno {
	if slot < 0 || slot >= m.slots {
		return api.ErrArg
	}
	s, ok := burstOf(lastOf(m.done, slot), at, bits)
	if !ok {
		return api.ErrArg
	}
	m.done = append(m.done, api.Write{Slot: slot, Bytes: s})
	return api.OK
}

// burstOf is a text after a burst, if it has room for it: both are numbers, as great as they are.
func burstOf(s string, at int, bits uint32) (string, bool) {
	end := new(big.Int).Add(big.NewInt(int64(at)), big.NewInt(32))
	if at < 0 || end.Cmp(big.NewInt(int64(8*len(s)))) > 0 {
		return "", false
	}
	whole := new(big.Int).SetBytes([]byte(s))
	turn := new(big.Int).Lsh(big.NewInt(int64(bits)), uint(8*len(s)-32-at))
	return string(whole.Xor(whole, turn).FillBytes(make([]byte, len(s)))), true
}

// wants holds what was told against what should be.
func wants(t *testing.T, what string, d api.Disk, e api.Errno, want api.Disk, wantE api.Errno) {
	t.Helper()
	same := slices.Equal(d.Slots, want.Slots) && slices.Equal(d.Wait, want.Wait) && d.Fuse == want.Fuse && d.Off == want.Off
	if e != wantE || !same {
		t.Fatalf("%s: %s, %d; not %s, %d", what, told(d), e, told(want), wantE)
	}
}

// random is a text of n bytes.
func random(g *rand.Rand, n int) string {
	b := make([]byte, n)
	g.Read(b)
	return string(b)
}

// some are disks of all kinds: such as the calls make, and others.
func some() []api.Disk {
	l := []api.Disk{
		{},
		of([]string{""}),
		of([]string{"abcd"}),
		of([]string{"abcd", "", "\x00\xff"}, 0, "x"),
		of([]string{"abcd", "efghi", ""}, 0, "x", 1, "", 2, "yz", 0, "uvw", 0, ""),
		of([]string{"a"}, 1, "x", -1, "y", math.MaxInt, "z", math.MinInt, "u", 0, "v", 1<<32, "w"),
		of(nil, 0, "x"),
		of(slices.Repeat([]string{"ab"}, 300), 299, "x", 300, "y"),
		of([]string{strings.Repeat("a", 2000)}, 0, strings.Repeat("b", 3000)),
	}
	for _, d := range slices.Clone(l) {
		l = append(l, off(deep(d)))
		for _, fuse := range []int{0, 1, 2, math.MaxInt, -2, math.MinInt} {
			l = append(l, armed(deep(d), fuse))
		}
	}
	// Off, with a Fuse that isn't 0.
	one := of([]string{"abcd", "e"}, 1, "x")
	one.Fuse, one.Off = 3, true
	return append(l, one)
}

// P8.1

func TestNewOfEachNumber(t *testing.T) {
	for n := 1; n <= 256; n++ {
		d, e := New(n)
		wants(t, fmt.Sprintf("New(%d)", n), d, e, of(make([]string, n)), api.OK)
	}
}

func TestNewRefuses(t *testing.T) {
	for _, n := range slices.Concat([]int{0, 257, 258, 511, 512, 513}, below, far) {
		d, e := New(n)
		if e != api.ErrArg || d.Slots != nil || d.Wait != nil || d.Fuse != 0 || d.Off {
			t.Fatalf("New(%d): %s, %d", n, told(d), e)
		}
	}
}

func TestArm(t *testing.T) {
	for _, d := range some() {
		for _, fuse := range slices.Concat([]int{0, 1, 2, 255, 256, 257}, far) {
			wants(t, "Arm", Arm(d, fuse), api.OK, armed(d, fuse), api.OK)
		}
		for _, fuse := range below {
			wants(t, "Arm", Arm(d, fuse), api.OK, armed(d, -1), api.OK)
		}
	}
}

func TestSame(t *testing.T) {
	l := some()
	for _, a := range l {
		if !Same(a, a) || !Same(a, deep(a)) || !Same(deep(a), a) {
			t.Fatalf("%s isn't itself", told(a))
		}
		for _, b := range l {
			if same := told(a) == told(b); Same(a, b) != same {
				t.Fatalf("%s and %s: not %t", told(a), told(b), same)
			}
		}
	}
}

// Each thing that makes a difference, alone.
func TestSameTellsEachDifference(t *testing.T) {
	made := func() api.Disk {
		return armed(of([]string{"a", "b", ""}, 0, "x", 1, "y", 0, "x"), 2)
	}
	for name, change := range map[string]func(d *api.Disk){
		"a slot's bytes":           func(d *api.Disk) { d.Slots[1] = "c" },
		"the last slot's bytes":    func(d *api.Disk) { d.Slots[2] = "\x00" },
		"a longer slot":            func(d *api.Disk) { d.Slots[0] = "ab" },
		"two slots changed round":  func(d *api.Disk) { d.Slots[0], d.Slots[1] = d.Slots[1], d.Slots[0] },
		"a slot less":              func(d *api.Disk) { d.Slots = d.Slots[:2] },
		"an empty slot more":       func(d *api.Disk) { d.Slots = append(d.Slots, "") },
		"no slot":                  func(d *api.Disk) { d.Slots = nil },
		"a write's slot":           func(d *api.Disk) { d.Wait[1].Slot = 2 },
		"a write's bytes":          func(d *api.Disk) { d.Wait[2].Bytes = "z" },
		"two writes changed round": func(d *api.Disk) { d.Wait[0], d.Wait[1] = d.Wait[1], d.Wait[0] },
		"a write less":             func(d *api.Disk) { d.Wait = d.Wait[:2] },
		"the first write less":     func(d *api.Disk) { d.Wait = d.Wait[1:] },
		"a write more":             func(d *api.Disk) { d.Wait = append(d.Wait, api.Write{}) },
		"no write":                 func(d *api.Disk) { d.Wait = nil },
		"a write done":             func(d *api.Disk) { d.Slots[0], d.Wait = "x", d.Wait[1:] },
		"the Fuse":                 func(d *api.Disk) { d.Fuse = 1 },
		"no Fuse":                  func(d *api.Disk) { d.Fuse = -1 },
		"Off":                      func(d *api.Disk) { d.Off = true },
	} {
		a, b := made(), made()
		if !Same(a, b) {
			t.Fatalf("%s isn't itself", told(a))
		}
		change(&b)
		if Same(a, b) || Same(b, a) {
			t.Errorf("%s makes no difference", name)
		}
	}
}

// A list without elements may be nil.
func TestSameOfEmptyLists(t *testing.T) {
	for _, a := range []api.Disk{{}, {Slots: []string{}}, {Wait: []api.Write{}}, {Slots: make([]string, 0, 3), Wait: make([]api.Write, 0, 3)}} {
		for _, b := range []api.Disk{{}, {Slots: []string{}}, {Wait: []api.Write{}}} {
			if !Same(a, b) {
				t.Errorf("%#v isn't %#v", a, b)
			}
		}
	}
	// What was flushed to an empty disk's end is as if nothing had waited.
	d, _ := New(2)
	f, e := Flush(d)
	if e != api.OK || !Same(d, f) || !Same(Crash(d, 0, 0), d) {
		t.Errorf("%s, %d", told(f), e)
	}
}

// P8.2

func TestPutExamples(t *testing.T) {
	two := []string{"a", "b"}
	big := strings.Repeat("x", 1025)
	for _, x := range []struct {
		d     api.Disk
		slot  int
		s     string
		want  api.Disk
		wantE api.Errno
	}{
		{of(two), 0, "x", of(two, 0, "x"), api.OK},
		{of(two), 1, "", of(two, 1, ""), api.OK},
		{of(two, 0, "x"), 0, "x", of(two, 0, "x", 0, "x"), api.OK},
		{of(two, 0, "x", 1, "y"), 0, "z\x00\xff", of(two, 0, "x", 1, "y", 0, "z\x00\xff"), api.OK},
		{of(two), 0, big[1:], of(two, 0, big[1:]), api.OK},
		{of(two), 0, big, of(two), api.ErrBig},
		{of(two, 1, "x"), 2, "y", of(two, 1, "x"), api.ErrArg},
		{of(two, 1, "x"), -1, "y", of(two, 1, "x"), api.ErrArg},
		// The Fuse.
		{armed(of(two), 0), 0, "x", off(of(two, 0, "x")), api.ErrDead},
		{armed(of(two, 1, "y"), 0), 0, "", off(of(two, 1, "y", 0, "")), api.ErrDead},
		{armed(of(two), 1), 0, "x", armed(of(two, 0, "x"), 0), api.OK},
		{armed(of(two), 2), 0, "x", armed(of(two, 0, "x"), 1), api.OK},
		{armed(of(two), math.MaxInt), 0, "x", armed(of(two, 0, "x"), math.MaxInt-1), api.OK},
		{armed(of(two), -2), 0, "x", armed(of(two, 0, "x"), -2), api.OK},
		{armed(of(two), math.MinInt), 0, "x", armed(of(two, 0, "x"), math.MinInt), api.OK},
		// What is refused for another reason takes none of the Fuse.
		{armed(of(two), 0), 2, "x", armed(of(two), 0), api.ErrArg},
		{armed(of(two), 0), 1, big, armed(of(two), 0), api.ErrBig},
		{armed(of(two), 1), 2, "x", armed(of(two), 1), api.ErrArg},
		{armed(of(two), 1), 1, big, armed(of(two), 1), api.ErrBig},
		// Of several errors the first one.
		{of(two), 2, big, of(two), api.ErrArg},
		{off(of(two, 0, "x")), 1, "y", off(of(two, 0, "x")), api.ErrDead},
		{off(of(two)), 2, "y", off(of(two)), api.ErrDead},
		{off(of(two)), 0, big, off(of(two)), api.ErrDead},
		{off(of(two)), -1, big, off(of(two)), api.ErrDead},
		{armed(of(two), 0), -1, big, armed(of(two), 0), api.ErrArg},
		{api.Disk{}, 0, "x", api.Disk{}, api.ErrArg},
	} {
		d, e := Put(x.d, x.slot, x.s)
		wants(t, fmt.Sprintf("Put(%s, %d, %q)", told(x.d), x.slot, x.s), d, e, x.want, x.wantE)
	}
}

func TestPutOfEachSlotAndLength(t *testing.T) {
	for _, n := range []int{1, 2, 255, 256} {
		d, _ := New(n)
		for slot := range n {
			got, e := Put(d, slot, "x")
			wants(t, "Put", got, e, of(d.Slots, slot, "x"), api.OK)
		}
		for _, slot := range slices.Concat([]int{n, n + 1, n + 256}, below, far) {
			got, e := Put(d, slot, "x")
			wants(t, fmt.Sprintf("Put into %d of %d", slot, n), got, e, d, api.ErrArg)
		}
	}
	d, _ := New(1)
	for long := range 1100 {
		s := strings.Repeat("\xff", long)
		got, e := Put(d, 0, s)
		if long <= 1024 {
			wants(t, "Put", got, e, of(d.Slots, 0, s), api.OK)
		} else {
			wants(t, "Put", got, e, d, api.ErrBig)
		}
	}
	for _, long := range []int{2048, 1 << 16, 1<<16 + 1, 1 << 20} {
		got, e := Put(d, 0, strings.Repeat("a", long))
		wants(t, "Put", got, e, d, api.ErrBig)
	}
}

// So many writes are taken as the Fuse tells, and the one behind them runs it out.
func TestAFuseRunsOut(t *testing.T) {
	for fuse := range 20 {
		d, _ := New(3)
		d = Arm(d, fuse)
		for i := range fuse {
			var e api.Errno
			if d, e = Put(d, i%3, "x"); e != api.OK || d.Off || d.Fuse != fuse-i-1 || len(d.Wait) != i+1 {
				t.Fatalf("fuse %d, write %d: %s, %d", fuse, i, told(d), e)
			}
		}
		d, e := Put(d, 2, "last")
		if e != api.ErrDead || !d.Off || d.Fuse != 0 || len(d.Wait) != fuse+1 {
			t.Fatalf("fuse %d: %s, %d", fuse, told(d), e)
		}
		if s, e := Get(d, 2); s != "last" || e != api.OK {
			t.Fatalf("fuse %d: %q, %d", fuse, s, e)
		}
		for range 3 {
			again, e := Put(d, 2, "more")
			wants(t, "Put behind the last", again, e, d, api.ErrDead)
			again, e = Flush(d)
			wants(t, "Flush behind the last", again, e, d, api.ErrDead)
		}
		// A Fuse alone doesn't bring the power back.
		again, e := Put(Arm(d, 5), 2, "more")
		wants(t, "Put of one that was armed", again, e, Arm(d, 5), api.ErrDead)
	}
}

func TestGetExamples(t *testing.T) {
	two := []string{"a", "b"}
	for _, x := range []struct {
		d     api.Disk
		slot  int
		want  string
		wantE api.Errno
	}{
		{of(two), 0, "a", api.OK},
		{of(two), 1, "b", api.OK},
		{of(two, 0, "x"), 0, "x", api.OK},
		{of(two, 0, "x"), 1, "b", api.OK},
		{of(two, 0, ""), 0, "", api.OK},
		{of(two, 0, "x", 0, "y"), 0, "y", api.OK},
		{of(two, 0, "x", 0, ""), 0, "", api.OK},
		{of(two, 0, "x", 1, "y"), 0, "x", api.OK},
		{of(two, 0, "x", 1, "y", 0, "z", 1, "u", 1, "v"), 0, "z", api.OK},
		{of(two, 0, "x", 1, "y", 0, "z", 1, "u", 1, "v"), 1, "v", api.OK},
		{of(two, 2, "x", -1, "y"), 1, "b", api.OK},
		{of(two, 2, "x", -1, "y"), 2, "", api.ErrArg},
		{of(two, 2, "x", -1, "y"), -1, "", api.ErrArg},
		{off(of(two, 0, "x")), 0, "x", api.OK},
		{off(of(two, 0, "x")), 1, "b", api.OK},
		{armed(of(two, 0, "x"), 0), 0, "x", api.OK},
		{api.Disk{}, 0, "", api.ErrArg},
		{of(nil, 0, "x"), 0, "", api.ErrArg},
	} {
		if s, e := Get(x.d, x.slot); s != x.want || e != x.wantE {
			t.Errorf("Get(%s, %d): %q %d, not %q %d", told(x.d), x.slot, s, e, x.want, x.wantE)
		}
	}
}

func TestGetOfEachSlot(t *testing.T) {
	for _, d := range some() {
		m := modelOf(d)
		for _, slot := range slices.Concat([]int{0, 1, 2, 3, 255, 256, 298, 299, 300, 301}, below, far) {
			want, wantE := m.get(slot)
			if s, e := Get(d, slot); s != want || e != wantE {
				t.Fatalf("Get(%s, %d): %q %d, not %q %d", told(d), slot, s, e, want, wantE)
			}
		}
	}
}

// P8.3

func TestTheExample(t *testing.T) {
	d, _ := New(2)
	d, _ = Put(d, 0, "a")
	d, _ = Flush(d)
	d, _ = Put(d, 0, "bc")
	d = Crash(d, 0, 1)
	wants(t, "Crash", d, api.OK, of([]string{"b", ""}), api.OK)
	if s, e := Get(d, 0); s != "b" || e != api.OK {
		t.Errorf("%q %d", s, e)
	}
}

func TestFlushExamples(t *testing.T) {
	for _, x := range []struct {
		d     api.Disk
		want  api.Disk
		wantE api.Errno
	}{
		{of([]string{"a", "b"}), of([]string{"a", "b"}), api.OK},
		{of([]string{"a", "b"}, 0, "x"), of([]string{"x", "b"}), api.OK},
		{of([]string{"a", "b"}, 1, ""), of([]string{"a", ""}), api.OK},
		{of([]string{"a", "b"}, 0, "x", 0, "y"), of([]string{"y", "b"}), api.OK},
		{of([]string{"a", "b"}, 0, "xyz", 1, "y", 0, "z", 1, "u"), of([]string{"z", "u"}), api.OK},
		{of([]string{"a", "b"}, 2, "x", 1, "y", -1, "z"), of([]string{"a", "y"}), api.OK},
		{of([]string{"a"}, math.MinInt, "x", math.MaxInt, "y", 1<<32, "z"), of([]string{"a"}), api.OK},
		{of(nil, 0, "x"), of(nil), api.OK},
		{api.Disk{}, api.Disk{}, api.OK},
		// The Fuse is of writes, not of what is done with them.
		{armed(of([]string{"a"}, 0, "x", 0, "y"), 0), armed(of([]string{"y"}), 0), api.OK},
		{armed(of([]string{"a"}, 0, "x"), 3), armed(of([]string{"x"}), 3), api.OK},
		{armed(of([]string{"a"}, 0, "x"), -7), armed(of([]string{"x"}), -7), api.OK},
		{off(of([]string{"a"}, 0, "x")), off(of([]string{"a"}, 0, "x")), api.ErrDead},
		{off(of([]string{"a"})), off(of([]string{"a"})), api.ErrDead},
	} {
		d, e := Flush(x.d)
		wants(t, "Flush("+told(x.d)+")", d, e, x.want, x.wantE)
	}
}

func TestCrashExamples(t *testing.T) {
	d := of([]string{"a", "b"}, 0, "xyz", 1, "uv", 0, "w")
	for _, x := range []struct {
		keep, tear int
		want       []string
	}{
		{0, -1, []string{"a", "b"}}, {0, 0, []string{"", "b"}}, {0, 1, []string{"x", "b"}}, {0, 2, []string{"xy", "b"}}, {0, 3, []string{"xyz", "b"}}, {0, 4, []string{"xyz", "b"}},
		{-1, -1, []string{"a", "b"}}, {-1, 0, []string{"", "b"}}, {-1, 2, []string{"xy", "b"}}, {math.MinInt, math.MaxInt, []string{"xyz", "b"}}, {math.MinInt, math.MinInt, []string{"a", "b"}},
		{1, -1, []string{"xyz", "b"}}, {1, 0, []string{"xyz", ""}}, {1, 1, []string{"xyz", "u"}}, {1, 9, []string{"xyz", "uv"}},
		{2, -1, []string{"xyz", "uv"}}, {2, 0, []string{"", "uv"}}, {2, 1, []string{"w", "uv"}},
		{3, -1, []string{"w", "uv"}}, {3, 0, []string{"w", "uv"}}, {4, 0, []string{"w", "uv"}}, {math.MaxInt, 0, []string{"w", "uv"}}, {math.MaxInt, math.MinInt, []string{"w", "uv"}},
	} {
		for _, one := range []api.Disk{d, armed(d, 0), armed(d, 3), armed(d, -4), off(d)} {
			wants(t, fmt.Sprintf("Crash(%s, %d, %d)", told(one), x.keep, x.tear), Crash(one, x.keep, x.tear), api.OK, of(x.want), api.OK)
		}
	}
}

func TestCrashOfEachPlace(t *testing.T) {
	numbers := slices.Concat([]int{0, 1, 2, 3, 4, 5, 6, 7, 2999, 3000, 3001}, below, far)
	for i, d := range some() {
		for _, keep := range numbers {
			for _, tear := range numbers {
				m := modelOf(d)
				m.crash(keep, tear)
				wants(t, fmt.Sprintf("Crash %d, %d of the disk %d", keep, tear, i), Crash(d, keep, tear), api.OK, m.disk(), api.OK)
			}
		}
	}
}

// A write of a slot that isn't there counts among those that are kept, and as the one that is torn.
func TestCrashOfAWriteOfNoSlot(t *testing.T) {
	d := of([]string{"a"}, 1, "x", 0, "yz")
	for _, x := range []struct {
		keep, tear int
		want       string
	}{{0, 1, "a"}, {0, -1, "a"}, {1, 1, "y"}, {1, -1, "a"}, {2, -1, "yz"}, {2, 0, "yz"}} {
		wants(t, fmt.Sprintf("Crash %d, %d", x.keep, x.tear), Crash(d, x.keep, x.tear), api.OK, of([]string{x.want}), api.OK)
	}
}

func TestACrashBringsThePowerBack(t *testing.T) {
	d, _ := New(1)
	d, e := Put(Arm(d, 0), 0, "x")
	if e != api.ErrDead {
		t.Fatal(e)
	}
	d = Crash(d, 1, -1)
	for range 5 {
		if d, e = Put(d, 0, "y"); e != api.OK {
			t.Fatal(e)
		}
	}
	d, e = Flush(d)
	wants(t, "Flush", d, e, of([]string{"y"}), api.OK)
}

// P8.4

func TestBurstExamples(t *testing.T) {
	for _, x := range []struct {
		s    string
		at   int
		bits uint32
		want string
	}{
		{"\x00\x00\x00\x00", 0, 0x12345678, "\x12\x34\x56\x78"},
		{"\xff\xff\xff\xff", 0, 0x12345678, "\xed\xcb\xa9\x87"},
		{"\x00\x00\x00\x00\x00", 8, 0x12345678, "\x00\x12\x34\x56\x78"},
		{"\x00\x00\x00\x00\x00", 4, 0x12345678, "\x01\x23\x45\x67\x80"},
		{"\x00\x00\x00\x00\x00", 3, 1<<31 | 1, "\x10\x00\x00\x00\x20"},
		{"\x00\x00\x00\x00\x00", 0, 1 << 31, "\x80\x00\x00\x00\x00"},
		{"\x00\x00\x00\x00\x00", 0, 1, "\x00\x00\x00\x01\x00"},
		{"\x00\x00\x00\x00\x00", 8, 1, "\x00\x00\x00\x00\x01"},
		{"\x00\x00\x00\x00\x00", 7, 3 << 30, "\x01\x80\x00\x00\x00"},
		{"abcdefg", 0, 0, "abcdefg"},
		{"abcdefg", 24, 0, "abcdefg"},
	} {
		d, e := Burst(of([]string{"other", x.s, "another"}), 1, x.at, x.bits)
		wants(t, fmt.Sprintf("Burst(%q, %d, %x)", x.s, x.at, x.bits), d, e, of([]string{"other", x.want, "another"}), api.OK)
	}
}

func TestBurstOfEachPlace(t *testing.T) {
	g := rand.New(rand.NewSource(1))
	for _, long := range []int{0, 1, 2, 3, 4, 5, 6, 7, 8, 13, 1024} {
		for _, s := range []string{strings.Repeat("\x00", long), strings.Repeat("\xff", long), random(g, long)} {
			for at := -40; at < 8*long+40; at++ {
				for _, bits := range []uint32{0, 1, 1 << 31, 1<<31 | 1, math.MaxUint32, g.Uint32()} {
					want, ok := burstOf(s, at, bits)
					d, e := Burst(of([]string{s}), 0, at, bits)
					if ok && (e != api.OK || d.Slots[0] != want) || !ok && (e != api.ErrArg || d.Slots[0] != s) {
						t.Fatalf("Burst(%q, %d, %x): %q %d, not %q", s, at, bits, d.Slots[0], e, want)
					}
				}
			}
		}
	}
}

func TestBurstRefuses(t *testing.T) {
	for _, d := range some() {
		for _, slot := range slices.Concat([]int{len(d.Slots), len(d.Slots) + 1, len(d.Slots) + 256}, below, far) {
			got, e := Burst(d, slot, 0, math.MaxUint32)
			wants(t, fmt.Sprintf("Burst of the slot %d", slot), got, e, d, api.ErrArg)
		}
		for slot, s := range d.Slots {
			for _, at := range slices.Concat([]int{8*len(s) - 31, 8 * len(s)}, below, far) {
				got, e := Burst(d, slot, at, math.MaxUint32)
				wants(t, fmt.Sprintf("Burst of the slot %d at %d", slot, at), got, e, d, api.ErrArg)
			}
		}
	}
}

// The slot's own bytes are hit, whatever waits for it, and whether there is power or not; all else stays.
func TestBurstOfTheSlotsOwnBytes(t *testing.T) {
	d := of([]string{"\x00\x00\x00\x00", "b"}, 0, "\x00\x00\x00\x00\x00\x00", 1, "wxyz")
	want := deep(d)
	want.Slots[0] = "\x00\x00\x00\x01"
	for _, change := range []func(api.Disk) api.Disk{
		func(d api.Disk) api.Disk { return d },
		func(d api.Disk) api.Disk { return armed(d, 0) },
		func(d api.Disk) api.Disk { return armed(d, 3) },
		func(d api.Disk) api.Disk { return armed(d, -3) },
		off,
	} {
		b, e := Burst(change(d), 0, 0, 1)
		wants(t, "Burst", b, e, change(want), api.OK)
		if s, e := Get(b, 0); s != "\x00\x00\x00\x00\x00\x00" || e != api.OK {
			t.Fatalf("%q %d", s, e)
		}
		// What waits is longer, but isn't what is hit.
		for slot, at := range []int{1, 0} {
			b, e = Burst(change(d), slot, at, 1)
			wants(t, "Burst", b, e, change(d), api.ErrArg)
		}
	}
	// Without what waits, it is seen.
	if s, e := Get(Crash(want, 0, -1), 0); s != "\x00\x00\x00\x01" || e != api.OK {
		t.Errorf("%q %d", s, e)
	}
}

func TestBurstTwiceChangesNothing(t *testing.T) {
	g := rand.New(rand.NewSource(2))
	for range 1000 {
		d := of([]string{random(g, 4+g.Intn(40))})
		at, bits := g.Intn(8*len(d.Slots[0])-31), g.Uint32()|1
		once, e := Burst(d, 0, at, bits)
		if e != api.OK || Same(once, d) {
			t.Fatalf("%s, %d", told(once), e)
		}
		twice, e := Burst(once, 0, at, bits)
		wants(t, "twice", twice, e, d, api.OK)
	}
}

// P8.5

// Since a flush some slots are written to: behind each crash all the others have what they had then, and those have that, or a beginning of what was written.
func TestWhatWasFlushedIsThereBehindEveryCrash(t *testing.T) {
	g := rand.New(rand.NewSource(3))
	for range 300 {
		n := 1 + g.Intn(8)
		d, _ := New(n)
		for range g.Intn(12) {
			d, _ = Put(d, g.Intn(n), random(g, g.Intn(20)))
		}
		d, e := Flush(d)
		if e != api.OK {
			t.Fatal(e)
		}
		flushed, d := d, Arm(d, g.Intn(12)-3)
		since := map[int][]string{}
		for range g.Intn(8) {
			slot, s := g.Intn(n), random(g, g.Intn(6))
			if d.Off {
				break
			}
			d, _ = Put(d, slot, s)
			since[slot] = append(since[slot], s)
		}
		for keep := -1; keep <= len(d.Wait)+1; keep++ {
			for tear := -1; tear < 8; tear++ {
				c := Crash(d, keep, tear)
				for slot := range n {
					is, e := Get(c, slot)
					was, _ := Get(flushed, slot)
					written := slices.ContainsFunc(since[slot], func(s string) bool { return strings.HasPrefix(s, is) })
					if e != api.OK || is != was && !written {
						t.Fatalf("slot %d of Crash(%s, %d, %d): %q %d, which was %q", slot, told(d), keep, tear, is, e, was)
					}
				}
			}
		}
	}
}

func TestWhatWasFlushedOutlastsManyCrashes(t *testing.T) {
	d, _ := New(3)
	d, _ = Put(d, 1, "kept")
	d, _ = Flush(d)
	for i := range 100 {
		d, _ = Put(d, 0, strings.Repeat("x", i))
		d, _ = Put(d, 2, strings.Repeat("y", i))
		d = Crash(d, i%4-1, i%7-1)
		if s, e := Get(d, 1); s != "kept" || e != api.OK {
			t.Fatalf("behind %d crashes: %q %d", i+1, s, e)
		}
	}
}

func TestAWriteThatWaitsIsReadAtOnce(t *testing.T) {
	g := rand.New(rand.NewSource(4))
	for range 200 {
		n := 1 + g.Intn(6)
		d, _ := New(n)
		has := make([]string, n)
		d = Arm(d, g.Intn(20)-5)
		for !d.Off && len(d.Wait) < 20 {
			slot, s := g.Intn(n), random(g, g.Intn(4))
			d, _ = Put(d, slot, s)
			has[slot] = s
			for i, want := range has {
				if got, e := Get(d, i); got != want || e != api.OK {
					t.Fatalf("Get(%s, %d): %q %d, not %q", told(d), i, got, e, want)
				}
			}
		}
	}
}

// All promises, of long rows of calls: each answer is the model's.
func TestRowsOfCalls(t *testing.T) {
	g := rand.New(rand.NewSource(5))
	for range 400 {
		n := 1 + g.Intn(5)
		d, _ := New(n)
		m := modelOf(d)
		for range 60 {
			slot, what, e, wantE := g.Intn(n+2)-1, "", api.OK, api.OK
			switch g.Intn(12) {
			case 0:
				what = "Flush"
				d, e = Flush(d)
				wantE = m.flush()
			case 1:
				keep, tear := g.Intn(8)-1, g.Intn(8)-1
				what = fmt.Sprintf("Crash %d, %d", keep, tear)
				d = Crash(d, keep, tear)
				m.crash(keep, tear)
			case 2:
				fuse := g.Intn(9) - 3
				what = fmt.Sprintf("Arm %d", fuse)
				d = Arm(d, fuse)
				m.arm(fuse)
			case 3, 4:
				at, bits := g.Intn(60)-4, g.Uint32()
				what = fmt.Sprintf("Burst %d, %d, %x", slot, at, bits)
				d, e = Burst(d, slot, at, bits)
				wantE = m.burst(slot, at, bits)
			default:
				s := random(g, g.Intn(12))
				if g.Intn(20) == 0 {
					s = random(g, 1020+g.Intn(10))
				}
				what = fmt.Sprintf("Put %d, %q", slot, s)
				d, e = Put(d, slot, s)
				wantE = m.put(slot, s)
			}
			wants(t, what, d, e, m.disk(), wantE)
			if !Same(d, m.disk()) {
				t.Fatalf("%s: not the same: %s", what, told(d))
			}
			for slot := -1; slot <= n; slot++ {
				want, wantE := m.get(slot)
				if s, e := Get(d, slot); s != want || e != wantE {
					t.Fatalf("%s, Get %d: %q %d, not %q %d", what, slot, s, e, want, wantE)
				}
			}
		}
	}
}

// R3 and R4: what is handed in stays as it is, what comes out is another's, and each call answers the same again.

// calls are all that answer a disk, those that are refused too.
func calls() map[string]func(api.Disk) api.Disk {
	first := func(d api.Disk, _ api.Errno) api.Disk { return d }
	return map[string]func(api.Disk) api.Disk{
		"Put":               func(d api.Disk) api.Disk { return first(Put(d, 0, "new")) },
		"Put of no slot":    func(d api.Disk) api.Disk { return first(Put(d, -1, "new")) },
		"Put of too much":   func(d api.Disk) api.Disk { return first(Put(d, 0, strings.Repeat("x", 1025))) },
		"Flush":             func(d api.Disk) api.Disk { return first(Flush(d)) },
		"Crash of all":      func(d api.Disk) api.Disk { return Crash(d, 9, -1) },
		"Crash of none":     func(d api.Disk) api.Disk { return Crash(d, 0, -1) },
		"Crash, torn":       func(d api.Disk) api.Disk { return Crash(d, 0, 1) },
		"Arm":               func(d api.Disk) api.Disk { return Arm(d, 1) },
		"Burst":             func(d api.Disk) api.Disk { return first(Burst(d, 0, 3, 1<<31|1)) },
		"Burst of no place": func(d api.Disk) api.Disk { return first(Burst(d, 0, 99, 1)) },
	}
}

// roomy is a disk whose lists have room behind them, and something in it.
func roomy() (d api.Disk, slots []string, wait []api.Write) {
	slots = []string{"abcde", "fgh", "", "behind", "it"}
	wait = []api.Write{{Slot: 0, Bytes: "xyz"}, {Slot: 1, Bytes: ""}, {Slot: 2, Bytes: "behind"}, {Slot: 0, Bytes: "it"}}
	return api.Disk{Slots: slots[:3], Wait: wait[:2], Fuse: 4}, slots, wait
}

func TestWhatIsHandedInStays(t *testing.T) {
	for name, call := range calls() {
		for _, change := range []func(api.Disk) api.Disk{
			func(d api.Disk) api.Disk { return d },
			func(d api.Disk) api.Disk { return armed(d, 0) },
			off,
		} {
			d, slots, wait := roomy()
			d = change(d)
			hadSlots, hadWait, had := slices.Clone(slots), slices.Clone(wait), told(d)
			once := told(call(d))
			for range 3 {
				if again := told(call(d)); again != once {
					t.Fatalf("%s: %s, and then %s", name, once, again)
				}
			}
			Get(d, 0)
			Same(d, d)
			if !slices.Equal(slots, hadSlots) || !slices.Equal(wait, hadWait) || told(d) != had {
				t.Fatalf("%s: %q and %#v, which were %q and %#v", name, slots, wait, hadSlots, hadWait)
			}
		}
	}
}

func TestWhatComesOutIsAnothers(t *testing.T) {
	for name, call := range calls() {
		for _, change := range []func(api.Disk) api.Disk{
			func(d api.Disk) api.Disk { return d },
			func(d api.Disk) api.Disk { return armed(d, 0) },
			off,
		} {
			d, _, _ := roomy()
			d = change(d)
			had := told(d)
			one := call(d)
			was := told(one)
			other := call(d)
			for i := range other.Slots {
				other.Slots[i] = "changed"
			}
			for i := range other.Wait {
				other.Wait[i] = api.Write{Slot: 2, Bytes: "changed"}
			}
			if told(d) != had || told(one) != was {
				t.Fatalf("%s: %s, which was %s, and %s, which was %s", name, told(d), had, told(one), was)
			}
			for i := range d.Slots {
				d.Slots[i] = "changed"
			}
			for i := range d.Wait {
				d.Wait[i] = api.Write{Slot: 2, Bytes: "changed"}
			}
			if told(one) != was {
				t.Fatalf("%s: %s, which was %s", name, told(one), was)
			}
		}
	}
	a, _ := New(2)
	b, _ := New(2)
	b.Slots[0] = "x"
	if a.Slots[0] != "" {
		t.Error("two new disks have the same slots")
	}
}

// Two ways to go on from one disk don't see each other.
func TestTwoGoOnFromOne(t *testing.T) {
	d, _ := New(2)
	for i := range 40 {
		var e api.Errno
		if d, e = Put(d, 0, strings.Repeat("a", i)); e != api.OK {
			t.Fatal(e)
		}
		x, _ := Put(d, 1, "x")
		y, _ := Put(d, 1, "y")
		flushed, _ := Flush(x)
		crashed := Crash(y, 99, -1)
		for _, one := range []struct {
			d    api.Disk
			want string
		}{{d, ""}, {x, "x"}, {y, "y"}, {flushed, "x"}, {crashed, "y"}} {
			if s, e := Get(one.d, 1); s != one.want || e != api.OK {
				t.Fatalf("behind %d writes: %q %d, not %q", i+1, s, e, one.want)
			}
		}
	}
}
