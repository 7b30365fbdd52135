package site

import (
	"math"
	"math/rand"
	"slices"
	"testing"

	"hogshead/api"
)

// Numbers that may be, and such as may not: some are in bounds in fewer bits, or go round to there.
var (
	goodVols    = []int{0, 1, 2, 13, 62, 63, 64, 65, 127, 128, 255, 256, 1000, 1064, 1 << 20, math.MaxInt32, 1 << 32, 1<<32 + 1, math.MaxInt - 64, math.MaxInt - 1, math.MaxInt}
	badVols     = []int{-1, -2, -63, -64, -65, math.MinInt32, math.MinInt + 1, math.MinInt}
	goodNodes   = []int{1, 2, 3, 13, 14, 20, 63, 64}
	badNodes    = []int{0, -1, -2, -64, math.MinInt32, math.MinInt + 1, math.MinInt, 65, 66, 128, 256, 257, 1 << 16, 1<<16 + 1, 1 << 32, 1<<32 + 1, math.MaxInt}
	goodRegions = []int{1, 2, 3}
	badRegions  = []int{0, -1, -2, -3, math.MinInt32, math.MinInt + 1, math.MinInt, 4, 5, 6, 256, 257, 1<<16 + 1, 1<<32 + 1, 1<<32 + 3, math.MaxInt}
)

// all are so many nodes that live.
func all(n int) []bool { return slices.Repeat([]bool{true}, n) }

// but are so many nodes that live, but for some.
func but(n int, dead ...int) []bool {
	live := all(n)
	for _, d := range dead {
		live[d] = false
	}
	return live
}

// everyLive are all lists of who lives, of n places.
func everyLive(n int) [][]bool {
	var l [][]bool
	for bits := range 1 << n {
		live := make([]bool, n)
		for i := range live {
			live[i] = bits>>i&1 == 1
		}
		l = append(l, live)
	}
	return l
}

// lives are some lists of who lives: none, all, some, fewer than there are nodes, and more.
func lives() [][]bool {
	g := rand.New(rand.NewSource(1))
	l := [][]bool{nil, {}, {false}, {true}, {false, true}, all(13), all(63), all(64), all(65), all(200), make([]bool, 64), make([]bool, 200), but(64, 0), but(64, 63), but(65, 64), but(14, 0, 13)}
	for range 20 {
		live := make([]bool, g.Intn(80))
		for i := range live {
			live[i] = g.Intn(3) > 0
		}
		l = append(l, live)
	}
	return l
}

// places are those of a region.
func places(region int, nodes ...int) []api.Place {
	var l []api.Place
	for _, n := range nodes {
		l = append(l, api.Place{Region: region, Node: n})
	}
	return l
}

// lively: does a node live?
func lively(n int, live []bool) bool { return n >= 0 && n < len(live) && live[n] }

// ringOf is what Ring should tell: one row behind the other.
func ringOf(vol, nodes int, live []bool) []int {
	if vol < 0 || nodes < 1 || nodes > 64 {
		return nil
	}
	var from, ahead []int
	for n := range nodes {
		switch {
		case !lively(n, live):
		case n >= vol%nodes:
			from = append(from, n)
		default:
			ahead = append(ahead, n)
		}
	}
	return slices.Concat(from, ahead)
}

// spreadOf is what Spread should tell.
func spreadOf(vol, region, many, nodes int, live []bool) ([]api.Place, api.Errno) {
	if region < 1 || region > 3 || many < 0 || vol < 0 || nodes < 1 || nodes > 64 {
		return nil, api.ErrArg
	}
	ring := ringOf(vol, nodes, live)
	if len(ring) < many {
		return nil, api.ErrFew
	}
	return places(region, ring[:many]...), api.OK
}

// nextOf is what Next should tell.
func nextOf(l []api.Place, nodes int, live []bool) (api.Place, api.Errno) {
	if len(l) == 0 || nodes < 1 || nodes > 64 {
		return api.Place{}, api.ErrArg
	}
	taken, last := map[int]int{}, l[len(l)-1]
	for _, p := range l {
		if p.Region != last.Region {
			return api.Place{}, api.ErrArg
		}
		taken[p.Node]++
	}
	n := 0
	if last.Node >= 0 {
		n = last.Node % nodes
	}
	for _, n := range ringOf(n, nodes, live) {
		if taken[n] == 0 {
			return api.Place{Region: last.Region, Node: n}, api.OK
		}
	}
	return api.Place{}, api.ErrFew
}

// rings holds what Ring tells against what it should.
func rings(t *testing.T, vol, nodes int, live []bool, want []int) {
	t.Helper()
	if got := Ring(vol, nodes, live); !slices.Equal(got, want) {
		t.Fatalf("Ring(%d, %d, %v): %v, not %v", vol, nodes, live, got, want)
	}
}

// spreads holds what Spread tells against what it should.
func spreads(t *testing.T, vol, region, many, nodes int, live []bool, want []api.Place, wantE api.Errno) {
	t.Helper()
	got, e := Spread(vol, region, many, nodes, live)
	if !slices.Equal(got, want) || e != wantE {
		t.Fatalf("Spread(%d, %d, %d, %d, %v): %v %d, not %v %d", vol, region, many, nodes, live, got, e, want, wantE)
	}
}

// thirds holds what Third tells against what it should.
func thirds(t *testing.T, a, b, want int, wantE api.Errno) {
	t.Helper()
	if got, e := Third(a, b); got != want || e != wantE {
		t.Fatalf("Third(%d, %d): %d %d, not %d %d", a, b, got, e, want, wantE)
	}
}

// nexts holds what Next tells against what it should.
func nexts(t *testing.T, l []api.Place, nodes int, live []bool, want api.Place, wantE api.Errno) {
	t.Helper()
	got, e := Next(l, nodes, live)
	if got != want || e != wantE {
		t.Fatalf("Next(%v, %d, %v): %v %d, not %v %d", l, nodes, live, got, e, want, wantE)
	}
}

// P11.1

func TestRingExamples(t *testing.T) {
	for _, x := range []struct {
		vol, nodes int
		live       []bool
		want       []int
	}{
		{5, 4, all(4), []int{1, 2, 3, 0}},
		{0, 4, all(4), []int{0, 1, 2, 3}},
		{3, 4, all(4), []int{3, 0, 1, 2}},
		{4, 4, all(4), []int{0, 1, 2, 3}},
		{0, 1, all(1), []int{0}},
		{math.MaxInt, 1, all(1), []int{0}},
		{math.MaxInt, 4, all(4), []int{3, 0, 1, 2}},
		{math.MaxInt, 64, but(64, 1, 63)[:3], []int{0, 2}},
		// Who is dead is passed over, also where the ring begins.
		{5, 4, but(4, 1), []int{2, 3, 0}},
		{5, 4, but(4, 0, 1), []int{2, 3}},
		{5, 4, but(4, 1, 2, 3), []int{0}},
		{5, 4, but(4, 0, 1, 2, 3), nil},
		// Who has no place in live is dead; places from nodes on are nobody's.
		{5, 4, all(3), []int{1, 2, 0}},
		{2, 4, all(1), []int{0}},
		{2, 4, nil, nil},
		{5, 4, all(9), []int{1, 2, 3, 0}},
		{5, 4, but(9, 0, 1, 2, 3), nil},
		// What may not be.
		{-1, 4, all(4), nil},
		{-4, 4, all(4), nil},
		{math.MinInt, 4, all(4), nil},
		{1, 0, all(4), nil},
		{1, -1, all(4), nil},
		{1, 65, all(65), nil},
		{1, math.MaxInt, all(65), nil},
		{1, math.MinInt, all(65), nil},
	} {
		rings(t, x.vol, x.nodes, x.live, x.want)
	}
	if l := Ring(70, 64, all(64)); len(l) != 64 || l[0] != 6 || l[57] != 63 || l[58] != 0 || l[63] != 5 {
		t.Error(l)
	}
}

func TestRingOfAllSmall(t *testing.T) {
	for n := range 7 {
		for _, live := range everyLive(n) {
			for nodes := -1; nodes <= 6; nodes++ {
				for vol := -7; vol <= 13; vol++ {
					rings(t, vol, nodes, live, ringOf(vol, nodes, live))
				}
			}
		}
	}
}

func TestRingAtTheEdges(t *testing.T) {
	for _, live := range lives() {
		for _, nodes := range slices.Concat(goodNodes, badNodes) {
			for _, vol := range slices.Concat(goodVols, badVols) {
				rings(t, vol, nodes, live, ringOf(vol, nodes, live))
			}
		}
	}
}

func TestSpreadExamples(t *testing.T) {
	for _, x := range []struct {
		vol, region, many, nodes int
		live                     []bool
		want                     []api.Place
		e                        api.Errno
	}{
		{2, 3, 3, 4, all(4), places(3, 2, 3, 0), api.OK},
		{2, 1, 4, 4, all(4), places(1, 2, 3, 0, 1), api.OK},
		{0, 2, 1, 4, all(4), places(2, 0), api.OK},
		{7, 2, 2, 4, but(4, 3), places(2, 0, 1), api.OK},
		{1, 1, 14, 14, all(14), places(1, 1, 2, 3, 4, 5, 6, 7, 8, 9, 10, 11, 12, 13, 0), api.OK},
		{math.MaxInt, 1, 2, 4, all(4), places(1, 3, 0), api.OK},
		// None are asked for.
		{2, 3, 0, 4, all(4), nil, api.OK},
		{2, 3, 0, 4, nil, nil, api.OK},
		// Too few live.
		{2, 3, 5, 4, all(4), nil, api.ErrFew},
		{2, 3, 5, 4, all(9), nil, api.ErrFew},
		{2, 3, 4, 4, but(4, 1), nil, api.ErrFew},
		{2, 3, 4, 4, all(3), nil, api.ErrFew},
		{2, 3, 1, 4, nil, nil, api.ErrFew},
		{2, 3, math.MaxInt, 64, all(64), nil, api.ErrFew},
		// What may not be, also where too few live.
		{2, 0, 3, 4, all(4), nil, api.ErrArg},
		{2, 4, 3, 4, all(4), nil, api.ErrArg},
		{2, 3, -1, 4, all(4), nil, api.ErrArg},
		{2, 3, math.MinInt, 4, all(4), nil, api.ErrArg},
		{-1, 3, 3, 4, all(4), nil, api.ErrArg},
		{2, 3, 3, 0, all(4), nil, api.ErrArg},
		{2, 3, 3, 65, all(65), nil, api.ErrArg},
		{2, 0, 5, 4, all(4), nil, api.ErrArg},
		{2, 4, 5, 4, all(4), nil, api.ErrArg},
		{-1, 3, 5, 4, all(4), nil, api.ErrArg},
		{2, 3, 1, 0, nil, nil, api.ErrArg},
		{2, 3, 66, 65, nil, nil, api.ErrArg},
		{2, 3, 0, 0, nil, nil, api.ErrArg},
		{-1, 3, 0, 4, nil, nil, api.ErrArg},
	} {
		spreads(t, x.vol, x.region, x.many, x.nodes, x.live, x.want, x.e)
	}
}

func TestSpreadOfAllSmall(t *testing.T) {
	for n := range 6 {
		for _, live := range everyLive(n) {
			for nodes := range 6 {
				for vol := -1; vol <= 6; vol++ {
					for many := -1; many <= 6; many++ {
						for region := range 5 {
							want, e := spreadOf(vol, region, many, nodes, live)
							spreads(t, vol, region, many, nodes, live, want, e)
						}
					}
				}
			}
		}
	}
}

func TestSpreadAtTheEdges(t *testing.T) {
	manies := []int{0, 1, 2, 13, 14, 63, 64, 65, 256, 1 << 32, math.MaxInt, -1, -64, math.MinInt32, math.MinInt}
	for _, live := range lives() {
		for _, nodes := range slices.Concat(goodNodes, badNodes) {
			for _, vol := range slices.Concat(goodVols, badVols) {
				for _, many := range manies {
					want, e := spreadOf(vol, 2, many, nodes, live)
					spreads(t, vol, 2, many, nodes, live, want, e)
				}
			}
			for _, region := range slices.Concat(goodRegions, badRegions) {
				want, e := spreadOf(3, region, 2, nodes, live)
				spreads(t, 3, region, 2, nodes, live, want, e)
			}
		}
	}
}

// P11.2

func TestThird(t *testing.T) {
	for _, x := range [][3]int{{1, 2, 3}, {1, 3, 2}, {2, 1, 3}, {2, 3, 1}, {3, 1, 2}, {3, 2, 1}} {
		thirds(t, x[0], x[1], x[2], api.OK)
	}
	for _, a := range goodRegions {
		thirds(t, a, a, 0, api.ErrArg)
		for _, b := range badRegions {
			thirds(t, a, b, 0, api.ErrArg)
			thirds(t, b, a, 0, api.ErrArg)
		}
	}
	for _, a := range badRegions {
		for _, b := range badRegions {
			thirds(t, a, b, 0, api.ErrArg)
		}
	}
}

func TestNextExamples(t *testing.T) {
	for _, x := range []struct {
		l     []api.Place
		nodes int
		live  []bool
		want  int
	}{
		{places(3, 2, 3, 0), 4, all(4), 1},
		{places(3, 0), 4, all(4), 1},
		{places(3, 3), 4, all(4), 0},
		// From the last one on, not from the first one, or the greatest.
		{places(3, 3, 1), 6, all(6), 2},
		{places(3, 1, 3), 6, all(6), 4},
		{places(3, 1, 3, 1), 6, all(6), 2},
		{places(3, 4, 5, 3), 6, all(6), 0},
		// Who is dead, or is one of them, is passed over.
		{places(3, 1), 4, but(4, 2), 3},
		{places(3, 1), 4, but(4, 2, 3), 0},
		{places(3, 3, 2, 1), 4, all(4), 0},
		{places(3, 1), 4, all(1), 0},
		{places(3, 1, 1, 1), 4, all(4), 2},
		// Numbers that no node has take none; the last one is taken modulo nodes.
		{places(3, 5), 4, all(4), 1},
		{places(3, 4), 4, all(4), 0},
		{places(3, 1, 5), 4, all(4), 2},
		{places(3, 5, 1), 4, all(4), 2},
		{places(3, 64, 66), 64, all(64), 2},
		{places(3, 64), 64, all(65), 0},
		{places(3, 1<<32+2), 4, all(4), 2},
		{places(3, math.MaxInt), 4, all(4), 3},
		{places(3, math.MaxInt), 64, all(64), 63},
		// Below 0: from 0 on.
		{places(3, -1), 4, all(4), 0},
		{places(3, -3), 4, all(4), 0},
		{places(3, -4), 4, all(4), 0},
		{places(3, 0, -3), 4, all(4), 1},
		{places(3, math.MinInt), 4, all(4), 0},
		{places(3, math.MinInt+1), 3, but(4, 0), 1},
		{places(3, 0), 2, all(9), 1},
	} {
		nexts(t, x.l, x.nodes, x.live, api.Place{Region: 3, Node: x.want}, api.OK)
	}
}

func TestNextThatIsNone(t *testing.T) {
	for _, x := range []struct {
		l     []api.Place
		nodes int
		live  []bool
		e     api.Errno
	}{
		{places(3, 2, 3, 0), 4, all(1), api.ErrFew},
		{places(3, 0, 1, 2, 3), 4, all(4), api.ErrFew},
		{places(3, 3, 1, 0, 2, 2), 4, all(4), api.ErrFew},
		{places(3, 2, 3, 0), 4, but(4, 1), api.ErrFew},
		{places(3, 7), 4, nil, api.ErrFew},
		{places(3, 0), 1, all(1), api.ErrFew},
		// Who lives from nodes on is none.
		{places(3, 0, 1), 2, all(64), api.ErrFew},
		{places(3, 1), 4, but(9, 0, 2, 3), api.ErrFew},
		{nil, 4, all(4), api.ErrArg},
		{[]api.Place{}, 4, all(4), api.ErrArg},
		{nil, 4, nil, api.ErrArg},
		{places(3, 1), 0, all(4), api.ErrArg},
		{places(3, 1), -1, all(4), api.ErrArg},
		{places(3, 1), 65, all(65), api.ErrArg},
		{places(3, 1), 65, nil, api.ErrArg},
		{places(3, 1), math.MaxInt, all(4), api.ErrArg},
		{places(3, 1), math.MinInt, all(4), api.ErrArg},
		// Of two regions: the first one is another, the last one, or one between.
		{[]api.Place{{Region: 2, Node: 0}, {Region: 3, Node: 1}, {Region: 3, Node: 2}}, 4, all(4), api.ErrArg},
		{[]api.Place{{Region: 3, Node: 0}, {Region: 3, Node: 1}, {Region: 1, Node: 2}}, 4, all(4), api.ErrArg},
		{[]api.Place{{Region: 3, Node: 0}, {Region: 4, Node: 1}, {Region: 3, Node: 2}}, 4, all(4), api.ErrArg},
		{[]api.Place{{Region: 1, Node: 0}, {Region: 2, Node: 0}}, 4, all(4), api.ErrArg},
		{[]api.Place{{Region: 1, Node: 0}, {Region: 1<<32 + 1, Node: 0}}, 4, all(4), api.ErrArg},
		// ErrArg is named ahead of ErrFew.
		{[]api.Place{{Region: 1, Node: 0}, {Region: 2, Node: 0}}, 4, nil, api.ErrArg},
	} {
		nexts(t, x.l, x.nodes, x.live, api.Place{}, x.e)
	}
}

// The promise asks of the regions that they are one, not which.
func TestNextOfAnyRegion(t *testing.T) {
	for _, region := range slices.Concat(goodRegions, badRegions) {
		nexts(t, places(region, 2, 1), 4, all(4), api.Place{Region: region, Node: 3}, api.OK)
		nexts(t, places(region, 2, 1), 4, but(4, 0, 3), api.Place{}, api.ErrFew)
		nexts(t, places(region, 2, 1), 65, all(4), api.Place{}, api.ErrArg)
	}
}

// rows are all rows of up to many places of a region, of nodes from one number on up to another.
func rows(region, many, from, to int) [][]api.Place {
	l := [][]api.Place{nil}
	last := l
	for range many {
		var longer [][]api.Place
		for _, r := range last {
			for n := from; n <= to; n++ {
				longer = append(longer, append(slices.Clone(r), api.Place{Region: region, Node: n}))
			}
		}
		l, last = slices.Concat(l, longer), longer
	}
	return l
}

func TestNextOfAllSmall(t *testing.T) {
	for _, l := range rows(2, 3, -2, 6) {
		for _, live := range everyLive(4) {
			for nodes := range 6 {
				want, e := nextOf(l, nodes, live)
				nexts(t, l, nodes, live, want, e)
			}
		}
	}
}

func TestNextAtTheEdges(t *testing.T) {
	numbers := slices.Concat(goodVols, badVols)
	for _, live := range lives() {
		for _, nodes := range slices.Concat(goodNodes, badNodes) {
			for i, n := range numbers {
				for _, l := range [][]api.Place{places(1, n), places(1, numbers[:i+1]...), places(1, numbers[i:]...), places(3, 0, 1, 2, 3, 4, 5, n)} {
					want, e := nextOf(l, nodes, live)
					nexts(t, l, nodes, live, want, e)
				}
			}
		}
	}
}

func TestNextOfRandomRows(t *testing.T) {
	g := rand.New(rand.NewSource(2))
	for range 20000 {
		nodes := 1 + g.Intn(64)
		live := make([]bool, g.Intn(70))
		for i := range live {
			live[i] = g.Intn(4) > 0
		}
		var l []api.Place
		for range 1 + g.Intn(100) {
			l = append(l, api.Place{Region: 2, Node: g.Intn(72) - 4})
		}
		if g.Intn(10) == 0 {
			l[g.Intn(len(l))].Region = 1 + g.Intn(3)
		}
		want, e := nextOf(l, nodes, live)
		nexts(t, l, nodes, live, want, e)
	}
}

// P11.3

// livesThere fails, if a place isn't a living node's, of that region.
func livesThere(t *testing.T, p api.Place, region, nodes int, live []bool) {
	t.Helper()
	if p.Region != region || p.Node < 0 || p.Node >= nodes || !lively(p.Node, live) {
		t.Fatalf("%v is no place of the region %d where one of %d lives: %v", p, region, nodes, live)
	}
}

// What is spread lives, and no node is there twice; each Next is a living one besides, until there is none.
func TestSpreadAndAllNext(t *testing.T) {
	g := rand.New(rand.NewSource(3))
	for range 3000 {
		nodes, vol, region := 1+g.Intn(64), g.Intn(1<<20), 1+g.Intn(3)
		live, count := make([]bool, g.Intn(70)), 0
		for i := range live {
			live[i] = g.Intn(5) > 0
			if live[i] && i < nodes {
				count++
			}
		}
		many := g.Intn(count + 1)
		l, e := Spread(vol, region, many, nodes, live)
		if e != api.OK || len(l) != many {
			t.Fatalf("%d of %d: %v %d", many, count, l, e)
		}
		if len(l) == 0 {
			continue
		}
		for len(l) < count {
			p, e := Next(l, nodes, live)
			if e != api.OK {
				t.Fatalf("Next(%v, %d, %v): %d", l, nodes, live, e)
			}
			l = append(l, p)
		}
		seen := map[api.Place]int{}
		for _, p := range l {
			livesThere(t, p, region, nodes, live)
			if seen[p]++; seen[p] > 1 {
				t.Fatalf("%v is twice in %v", p, l)
			}
		}
		nexts(t, l, nodes, live, api.Place{}, api.ErrFew)
	}
}

// One who takes the place of a dead one is another, and lives.
func TestNextForOneThatDied(t *testing.T) {
	for vol := range 40 {
		l, _ := Spread(vol, 1, 14, 20, all(20))
		for i, p := range l {
			live := but(20, p.Node)
			q, e := Next(append(slices.Clone(l), p), 20, live)
			if e != api.OK || slices.Contains(l, q) {
				t.Fatalf("%v for %v of %v: %d", q, i, l, e)
			}
			livesThere(t, q, 1, 20, live)
		}
	}
}

// As long as nobody dies, or rises, the same volume is spread to the same places, whatever else is asked between.
func TestSpreadStays(t *testing.T) {
	live := but(20, 3, 7)
	var was [][]api.Place
	for vol := range 100 {
		l, e := Spread(vol, 1+vol%3, 14, 20, live)
		if e != api.OK {
			t.Fatal(e)
		}
		was = append(was, l)
	}
	for vol := 99; vol >= 0; vol-- {
		for _, same := range [][]bool{live, slices.Clone(live), append(slices.Clone(live), true, false, true)} {
			Ring(vol+1, 20, all(20))
			Next(was[vol], 20, all(20))
			spreads(t, vol, 1+vol%3, 14, 20, same, was[vol], api.OK)
		}
	}
	// Who isn't below nodes, and who has no place in live, is dead already.
	spreads(t, 5, 2, 3, 4, []bool{true, true, true}, places(2, 1, 2, 0), api.OK)
	spreads(t, 5, 2, 3, 4, []bool{true, true, true, false, true}, places(2, 1, 2, 0), api.OK)
}

// R3 and R4: what is handed in stays as it is, what comes out is another's, and each call answers the same again.

func TestWhatIsHandedInStays(t *testing.T) {
	// Both lists have room behind them.
	live, l := but(70, 1, 2, 40), places(2, 5, 6, 0, 8, 9, 3)
	hadLive, hadL := slices.Clone(live), slices.Clone(l)
	for range 3 {
		rings(t, 5, 6, live[:4], []int{0, 3})
		spreads(t, 5, 2, 2, 6, live[:4], places(2, 0, 3), api.OK)
		spreads(t, 5, 2, 3, 6, live[:4], nil, api.ErrFew)
		nexts(t, l[:3], 6, live[:4], api.Place{Region: 2, Node: 3}, api.OK)
		nexts(t, l[:3], 6, live[:1], api.Place{}, api.ErrFew)
		if !slices.Equal(live, hadLive) || !slices.Equal(l, hadL) {
			t.Fatalf("%v and %v, which were %v and %v", live, l, hadLive, hadL)
		}
	}
}

func TestWhatComesOutIsAnothers(t *testing.T) {
	live := all(4)
	ring := Ring(5, 4, live)
	spread, _ := Spread(2, 3, 3, 4, live)
	ring[0], spread[0] = 9, api.Place{Region: 9, Node: 9}
	rings(t, 5, 4, live, []int{1, 2, 3, 0})
	spreads(t, 2, 3, 3, 4, live, places(3, 2, 3, 0), api.OK)
	// What is put behind one isn't seen in another.
	one, _ := Spread(2, 3, 2, 4, live)
	two, _ := Spread(2, 3, 2, 4, live)
	a, b := append(one, api.Place{Region: 1}), append(two, api.Place{Region: 2})
	if a[2].Region != 1 || b[2].Region != 2 {
		t.Fatalf("%v %v", a, b)
	}
	// Nor is what is done to live later on.
	kept := Ring(5, 4, live)
	clear(live)
	if !slices.Equal(kept, []int{1, 2, 3, 0}) {
		t.Fatal(kept)
	}
}
