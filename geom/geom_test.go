package geom

import (
	"math"
	"slices"
	"testing"

	"revetment/api"
	"revetment/page"
	"revetment/rig"
)

// toldBytes counts the bytes of a state one by one, as they are encoded.
func toldBytes(g api.Geom) int {
	n := 4 + 1 + 1 + 4
	for range g.Sets {
		n += g.Ways
	}
	for range api.MaxSnaps {
		n += 4
		for b := range g.Blocks {
			n++ // its place
			if b%8 == 0 {
				n++ // a byte of the set of those that changed
			}
		}
	}
	for range g.Blocks {
		n++
	}
	return n
}

// toldPages is as many pages as the bytes need.
func toldPages(g api.Geom) int {
	n := 0
	for left := toldBytes(g); left > 0; left -= 48 {
		n++
	}
	return n
}

// toldGood holds g against the limits, written out.
func toldGood(g api.Geom) bool {
	if g.Blocks < 1 || g.Blocks > 64 || g.Sets < 1 || g.Sets > 8 || g.Ways < 1 || g.Ways > 4 || g.Area < 0 || g.Area > 200 {
		return false
	}
	return g.Ring >= toldPages(g)+2 && g.Ring <= 256
}

// all is what the functions answer of a geometry, those that take a place at the places -1, 0, the last one, the one behind it, and the greatest and the least number.
type all struct {
	good                                 bool
	bytes, pages, ring, home, fast, slow int
	slot, area                           [6]int
}

func answers(g api.Geom) all {
	x := all{good: Good(g), bytes: Bytes(g), pages: Pages(g), ring: Ring(g), home: Home(g), fast: Fast(g), slow: Slow(g)}
	for k, i := range [6]int{-1, 0, g.Sets*g.Ways - 1, g.Sets * g.Ways, math.MaxInt, math.MinInt} {
		x.slot[k] = Slot(g, i)
	}
	for k, i := range [6]int{-1, 0, g.Area - 1, g.Area, math.MaxInt, math.MinInt} {
		x.area[k] = Area(g, i)
	}
	return x
}

// told is what they answer by the document's words.
func told(g api.Geom) all {
	if !toldGood(g) {
		return all{}
	}
	n := g.Sets * g.Ways
	slots := 2 + g.Ring + toldPages(g)
	x := all{good: true, bytes: toldBytes(g), pages: toldPages(g), ring: 2, home: 2 + g.Ring, fast: slots + n, slow: g.Blocks + g.Area}
	x.slot = [6]int{0, slots, slots + n - 1, 0}
	if g.Area > 0 {
		x.area = [6]int{0, g.Blocks, g.Blocks + g.Area - 1, 0}
	}
	return x
}

func answersAs(t *testing.T, g api.Geom) {
	t.Helper()
	if x, want := answers(g), told(g); x != want {
		t.Errorf("%v: %v, want %v", g, x, want)
	}
}

// geoms visits geometries of every number of blocks, sets and ways, with areas and rings at their edges and between.
func geoms(yield func(api.Geom) bool) {
	for blocks := 1; blocks <= 64; blocks++ {
		for sets := 1; sets <= 8; sets++ {
			for ways := 1; ways <= 4; ways++ {
				g := api.Geom{Blocks: blocks, Sets: sets, Ways: ways}
				least := toldPages(g) + 2
				for _, g.Area = range []int{0, 1, 200} {
					for _, g.Ring = range []int{least, 100, 256} {
						if !yield(g) {
							return
						}
					}
				}
			}
		}
	}
}

// The limits that the chapter names, which these tests write out.
func TestLimits(t *testing.T) {
	if got := [8]int{api.MaxBlocks, api.MaxSets, api.MaxWays, api.MaxArea, api.MaxRing, api.MaxSnaps, api.Page, api.MaxSector}; got != [8]int{64, 8, 4, 200, 256, 8, 48, 4096} {
		t.Error(got)
	}
}

// P7.1: the document's example, and where everything stands then.
func TestExample(t *testing.T) {
	g := api.Geom{Blocks: 8, Sets: 2, Ways: 2, Area: 4, Ring: 7}
	want := all{
		good: true, bytes: 126, pages: 3, ring: 2, home: 9, fast: 16, slow: 12,
		slot: [6]int{0, 12, 15, 0},
		area: [6]int{0, 8, 11, 0},
	}
	if x := answers(g); x != want {
		t.Errorf("%v, want %v", x, want)
	}
	for i, sector := range []int{12, 13, 14, 15} {
		if n := Slot(g, i); n != sector {
			t.Errorf("Slot(%d) = %d, want %d", i, n, sector)
		}
	}
	for i, sector := range []int{8, 9, 10, 11} {
		if n := Area(g, i); n != sector {
			t.Errorf("Area(%d) = %d, want %d", i, n, sector)
		}
	}
}

// P7.1: Bytes and Pages worked out by hand: about multiples of 8 blocks, and about bytes that fill their pages.
func TestSizes(t *testing.T) {
	for _, x := range []struct{ blocks, sets, ways, bytes, pages int }{
		{1, 1, 1, 60, 2},
		{7, 1, 1, 114, 3}, {8, 1, 1, 123, 3}, {9, 1, 1, 140, 3},
		{15, 1, 1, 194, 5}, {16, 1, 1, 203, 5}, {17, 1, 1, 220, 5},
		{56, 1, 1, 603, 13}, {57, 1, 1, 620, 13}, {63, 1, 1, 674, 15}, {64, 1, 1, 683, 15},
		{8, 2, 2, 126, 3}, {64, 8, 4, 714, 15},
		{9, 5, 1, 144, 3}, {9, 1, 4, 143, 3}, {9, 2, 3, 145, 4}, {9, 3, 2, 145, 4},
	} {
		for _, area := range []int{0, 4, 200} {
			for _, ring := range []int{x.pages + 2, 256} {
				g := api.Geom{Blocks: x.blocks, Sets: x.sets, Ways: x.ways, Area: area, Ring: ring}
				if Bytes(g) != x.bytes || Pages(g) != x.pages {
					t.Errorf("%v: %d bytes, %d pages, want %d, %d", g, Bytes(g), Pages(g), x.bytes, x.pages)
				}
			}
			g := api.Geom{Blocks: x.blocks, Sets: x.sets, Ways: x.ways, Area: area, Ring: x.pages + 1}
			if x := answers(g); x != (all{}) {
				t.Errorf("%v: %v", g, x)
			}
		}
	}
}

// P7.1: all functions of every number of blocks, sets and ways, held against the document's words; Pages is what page.Count and page.Cut tell of the bytes.
func TestEachGeometry(t *testing.T) {
	for g := range geoms {
		answersAs(t, g)
		if n := Bytes(g); Pages(g) != page.Count(n) || Pages(g) != len(page.Cut(make([]byte, n))) {
			t.Errorf("%v: %d pages of %d bytes", g, Pages(g), n)
		}
	}
}

// P7.1: every ring and every area of some geometries, those that are too small or too large among them.
func TestEachRingAndArea(t *testing.T) {
	for _, g := range []api.Geom{{Blocks: 1, Sets: 1, Ways: 1}, {Blocks: 8, Sets: 2, Ways: 2}, {Blocks: 9, Sets: 5, Ways: 1}, {Blocks: 64, Sets: 8, Ways: 4}} {
		least := toldPages(g) + 2
		for ring := -3; ring < 300; ring++ {
			g.Area, g.Ring = 4, ring
			answersAs(t, g)
			if Good(g) != (ring >= least && ring <= 256) {
				t.Errorf("%v: Good is %v", g, Good(g))
			}
		}
		for area := -3; area < 300; area++ {
			g.Area, g.Ring = area, 50
			answersAs(t, g)
			if Good(g) != (area >= 0 && area <= 200) {
				t.Errorf("%v: Good is %v", g, Good(g))
			}
		}
	}
}

// numbers are in no range, but some come back into one if they wrap round.
var numbers = []int{math.MinInt, math.MinInt + 1, -1 << 32, math.MinInt32, -256, -8, -2, 300, math.MaxInt32, 1 << 32, 1<<32 + 2, 1 << 62, math.MaxInt - 7, math.MaxInt - 1, math.MaxInt}

// P7.1: the edges of each number, alone: which of them are valid, written out.
func TestEdges(t *testing.T) {
	whole := api.Geom{Blocks: 8, Sets: 2, Ways: 2, Area: 4, Ring: 50}
	for _, x := range []struct {
		name      string
		with      func(int) api.Geom
		good, bad []int
	}{
		{"Blocks", func(n int) api.Geom { g := whole; g.Blocks = n; return g }, []int{1, 2, 63, 64}, []int{-1, 0, 65, 66}},
		{"Sets", func(n int) api.Geom { g := whole; g.Sets = n; return g }, []int{1, 2, 7, 8}, []int{-1, 0, 9, 10}},
		{"Ways", func(n int) api.Geom { g := whole; g.Ways = n; return g }, []int{1, 2, 3, 4}, []int{-1, 0, 5, 6}},
		{"Area", func(n int) api.Geom { g := whole; g.Area = n; return g }, []int{0, 1, 199, 200}, []int{-1, 201, 202}},
		{"Ring", func(n int) api.Geom { g := whole; g.Ring = n; return g }, []int{5, 6, 255, 256}, []int{-1, 0, 1, 2, 3, 4, 257, 258}},
	} {
		for _, n := range x.good {
			g := x.with(n)
			if !Good(g) {
				t.Errorf("%s %d: not good", x.name, n)
			}
			answersAs(t, g)
		}
		for _, n := range slices.Concat(x.bad, numbers) {
			isNone(t, x.with(n))
		}
	}
}

// isNone checks that g is not valid, and that all functions return 0 of it, at any place.
func isNone(t *testing.T, g api.Geom) {
	t.Helper()
	if x := answers(g); x != (all{}) {
		t.Errorf("%v: %v", g, x)
	}
	for _, i := range append([]int{-1, 0, 1, 2, 3, 4, 100}, numbers...) {
		if Slot(g, i) != 0 || Area(g, i) != 0 {
			t.Errorf("%v: place %d: %d, %d", g, i, Slot(g, i), Area(g, i))
		}
	}
}

// P7.1: several numbers wrong at once, also where the wrong ones make up for each other.
func TestSeveralWrong(t *testing.T) {
	isNone(t, api.Geom{})
	for _, n := range numbers {
		isNone(t, api.Geom{Blocks: n, Sets: n, Ways: n, Area: n, Ring: n})
		isNone(t, api.Geom{Blocks: 8, Sets: n, Ways: n, Area: 4, Ring: 50})
		isNone(t, api.Geom{Blocks: n, Sets: 2, Ways: 2, Area: n, Ring: 50})
		isNone(t, api.Geom{Blocks: n, Sets: 2, Ways: 2, Area: 4, Ring: n})
		isNone(t, api.Geom{Blocks: n, Sets: 2, Ways: 2, Area: -n, Ring: 256})
	}
	isNone(t, api.Geom{Blocks: 8, Sets: -2, Ways: -2, Area: 4, Ring: 50})
	isNone(t, api.Geom{Blocks: 8, Sets: 1, Ways: 16, Area: 4, Ring: 50})
	isNone(t, api.Geom{Blocks: 8, Sets: 16, Ways: 1, Area: 4, Ring: 50})
	isNone(t, api.Geom{Blocks: 8, Sets: 1 << 32, Ways: 1 << 32, Area: 4, Ring: 50})
	isNone(t, api.Geom{Blocks: -8, Sets: 2, Ways: 2, Area: 12, Ring: 50})
	isNone(t, api.Geom{Blocks: 68, Sets: 2, Ways: 2, Area: -4, Ring: 50})
	isNone(t, api.Geom{Blocks: -20, Sets: 8, Ways: 4, Area: 4, Ring: 2})
	isNone(t, api.Geom{Blocks: -1, Sets: 1, Ways: 1, Area: 0, Ring: 4})
}

// P7.1: the edges of all numbers together.
func TestAllEdges(t *testing.T) {
	good := 0
	var g api.Geom
	for _, g.Blocks = range []int{math.MinInt, -1, 0, 1, 8, 64, 65, math.MaxInt} {
		for _, g.Sets = range []int{math.MinInt, -1, 0, 1, 8, 9, math.MaxInt} {
			for _, g.Ways = range []int{math.MinInt, -1, 0, 1, 4, 5, math.MaxInt} {
				for _, g.Area = range []int{math.MinInt, -1, 0, 1, 200, 201, math.MaxInt} {
					for _, g.Ring = range []int{math.MinInt, -1, 0, 3, 4, 5, 16, 17, 256, 257, math.MaxInt} {
						answersAs(t, g)
						if Good(g) {
							good++
						}
					}
				}
			}
		}
	}
	// 3 areas, and of 1 block 4 caches with 5 rings; of 8 blocks 3 caches with 4 rings, and one whose slots make a page more, with 3; of 64 blocks 4 caches with 2 rings
	if want := 3 * (4*5 + 3*4 + 3 + 4*2); good != want {
		t.Errorf("%d are good, want %d", good, want)
	}
}

// P7.1: which slots and which blocks of the area there are, at every place about them and far away.
func TestPlaces(t *testing.T) {
	for _, g := range []api.Geom{
		{Blocks: 8, Sets: 2, Ways: 2, Area: 4, Ring: 10},
		{Blocks: 1, Sets: 1, Ways: 1, Area: 0, Ring: 4},
		{Blocks: 1, Sets: 1, Ways: 1, Area: 1, Ring: 4},
		{Blocks: 64, Sets: 8, Ways: 4, Area: 0, Ring: 17},
		{Blocks: 64, Sets: 8, Ways: 4, Area: 200, Ring: 256},
		{Blocks: 9, Sets: 1, Ways: 4, Area: 199, Ring: 100},
	} {
		slot, area := 2+g.Ring+toldPages(g), g.Blocks
		for i := -300; i < 600; i++ {
			want := 0
			if i >= 0 && i < g.Sets*g.Ways {
				want = slot + i
			}
			if n := Slot(g, i); n != want {
				t.Errorf("%v: Slot(%d) = %d, want %d", g, i, n, want)
			}
			want = 0
			if i >= 0 && i < g.Area {
				want = area + i
			}
			if n := Area(g, i); n != want {
				t.Errorf("%v: Area(%d) = %d, want %d", g, i, n, want)
			}
		}
		for _, i := range numbers {
			if (i < 0 || i > 300) && (Slot(g, i) != 0 || Area(g, i) != 0) {
				t.Errorf("%v: place %d: %d, %d", g, i, Slot(g, i), Area(g, i))
			}
		}
	}
}

// owners tells of each sector of a disk whose it is.
type owners []string

// take gives a sector to a thing.
func (o owners) take(t *testing.T, sector int, thing string) {
	t.Helper()
	switch {
	case sector < 0 || sector >= len(o):
		t.Errorf("%s: sector %d of %d", thing, sector, len(o))
	case o[sector] != "":
		t.Errorf("%s: sector %d is one of %s", thing, sector, o[sector])
	default:
		o[sector] = thing
	}
}

// takeAll gives a thing so many sectors from the first one on.
func (o owners) takeAll(t *testing.T, first, count int, thing string) {
	t.Helper()
	for i := range count {
		o.take(t, first+i, thing)
	}
}

// P7.2: no two things use the same sector, no sector between them is nobody's, and Fast and Slow are just behind the last ones.
func TestSectorsAreApart(t *testing.T) {
	for g := range geoms {
		fast, slow := make(owners, Fast(g)), make(owners, Slow(g))
		fast.takeAll(t, 0, 2, "the superblocks")
		fast.takeAll(t, Ring(g), g.Ring, "the ring")
		fast.takeAll(t, Home(g), Pages(g), "the home pages")
		for i := range g.Sets * g.Ways {
			fast.take(t, Slot(g, i), "the slots")
		}
		slow.takeAll(t, 0, g.Blocks, "the blocks")
		for i := range g.Area {
			slow.take(t, Area(g, i), "the area")
		}
		if slices.Contains(fast, "") || slices.Contains(slow, "") {
			t.Errorf("%v: a sector is nobody's: %q, %q", g, fast, slow)
		}
		if !slices.IsSorted(kinds(fast, "the superblocks", "the ring", "the home pages", "the slots")) || !slices.IsSorted(kinds(slow, "the blocks", "the area")) {
			t.Errorf("%v: not in the document's order: %q, %q", g, fast, slow)
		}
		if t.Failed() {
			return
		}
	}
}

// kinds returns for each sector which of the things has it.
func kinds(o owners, things ...string) []int {
	var l []int
	for _, thing := range o {
		l = append(l, slices.Index(things, thing))
	}
	return l
}

// P7.2: there are rigs as large as the largest and the smallest geometry, and the last sectors are theirs.
func TestRigs(t *testing.T) {
	for _, g := range []api.Geom{{Blocks: 64, Sets: 8, Ways: 4, Area: 200, Ring: 256}, {Blocks: 1, Sets: 1, Ways: 1, Ring: 4}} {
		r, e := rig.New(Fast(g), Slow(g))
		if e != api.OK {
			t.Fatalf("%v: %v", g, e)
		}
		if last := Slot(g, g.Sets*g.Ways-1); last != r.Len(rig.Fast)-1 {
			t.Errorf("%v: the last slot is sector %d", g, last)
		}
		if last := Area(g, g.Area-1); g.Area > 0 && last != r.Len(rig.Slow)-1 {
			t.Errorf("%v: the last block of the area is sector %d", g, last)
		}
	}
}

// What is answered of a geometry does not depend on those that were asked before.
func TestCallsAreApart(t *testing.T) {
	l := []api.Geom{{Blocks: 8, Sets: 2, Ways: 2, Area: 4, Ring: 7}, {}, {Blocks: 64, Sets: 8, Ways: 4, Area: 200, Ring: 256}, {Blocks: 65, Sets: 8, Ways: 4, Area: 200, Ring: 256}, {Blocks: 1, Sets: 1, Ways: 1, Ring: 4}}
	for _, before := range l {
		for _, g := range l {
			answers(before)
			answersAs(t, g)
		}
	}
}
