package state

import (
	"math"
	"math/rand"
	"slices"
	"testing"

	"revetment/api"
	"revetment/geom"
)

// shape has two sets of three slots: blocks 0, 2, 4, 6, 8 belong to the first one. The last byte of a set of its blocks has one bit.
func shape() api.Geom { return api.Geom{Blocks: 9, Sets: 2, Ways: 3, Area: 6, Ring: 10} }

// full is valid for shape; it has something of all, and a plan to import.
func full() api.State {
	return api.State{
		Dirty: []int{6, -1, 0, 3, -1, 1}, Next: 11,
		Snaps: []api.Snap{{Id: 2, Changed: []byte{0b101, 1}, Table: pairs(0, 3, 2, 0, 8, 4)}, {Id: 10, Changed: []byte{0b01000000, 0}, Table: pairs(6, 1)}},
		Plan:  api.Plan{Kind: api.PlanImport, Id: 300, Pairs: pairs(1, 2, 4, api.Zeros, 7, api.Zeros, 8, 5)},
	}
}

// rolling is full with a plan to roll, and with a block that changed behind its last snapshot and has no place.
func rolling() api.State {
	s := full()
	s.Snaps[1].Changed[0] |= 0b10
	s.Plan = api.Plan{Kind: api.PlanRoll, Id: 2, Pairs: pairs(0, 3, 2, 0, 5, 1, 7, 1, 8, 4)}
	return s
}

// plain is full without a plan.
func plain() api.State {
	s := full()
	s.Plan = api.Plan{}
	return s
}

// bare makes a state of shape with so many snapshots in which nothing has changed.
func bare(n int) api.State {
	s, _ := First(shape())
	for i := range n {
		s.Snaps = append(s.Snaps, api.Snap{Id: i + 1, Changed: []byte{0, 0}})
	}
	s.Next = n + 1
	return s
}

// judge holds Good and Encode to what a state is: Encode takes just what is good.
func judge(t *testing.T, g api.Geom, s api.State, want bool) {
	t.Helper()
	if Good(g, s) != want {
		t.Errorf("Good(%v, %v) is %v", g, s, !want)
	}
	b, e := Encode(g, s)
	if want && (e != api.OK || len(b) != geom.Bytes(g)) {
		t.Errorf("Encode(%v, %v): %d bytes, %v", g, s, len(b), e)
	}
	if !want && (e != api.ErrForm || len(b) != 0) {
		t.Errorf("Encode(%v, %v) = %v, %v", g, s, b, e)
	}
	if toldGood(g, s) != want {
		t.Errorf("%v, %v: the document's words say %v", g, s, !want)
	}
}

// edited returns s in new memory, changed.
func edited(s api.State, edit func(s *api.State)) api.State {
	s = anew(s)
	edit(&s)
	return s
}

// P14.1: the states of these tests are valid, for their own geometry.
func TestGoodOfValid(t *testing.T) {
	for _, s := range []api.State{full(), rolling(), plain(), bare(0), bare(1), bare(8)} {
		judge(t, shape(), s, true)
	}
	for _, x := range samples() {
		judge(t, x.g, x.s, true)
	}
}

// P14.1: no state is valid for a geometry that is not.
func TestGoodOfStrangeGeometry(t *testing.T) {
	for _, g := range strange() {
		judge(t, g, api.State{}, false)
		judge(t, g, api.State{Next: 1}, false)
		for _, s := range []api.State{full(), plain(), bare(0)} {
			judge(t, g, s, false)
		}
		if 0 < g.Sets && g.Sets < 10 && 0 < g.Ways && g.Ways < 10 {
			judge(t, g, api.State{Dirty: slices.Repeat([]int{-1}, g.Sets*g.Ways), Next: 1}, false)
		}
	}
}

// P14.1: a state that fits one geometry fits no other with other Blocks, Sets or Ways, and only those whose area has its places.
func TestGoodOfOtherGeometry(t *testing.T) {
	for _, s := range []api.State{full(), rolling(), plain()} {
		for blocks := 1; blocks <= 64; blocks++ {
			judge(t, sized(blocks, 2, 3, 6), s, blocks > 8 && blocks < 17)
		}
		for area := range 201 {
			judge(t, sized(9, 2, 3, area), s, area > 4 && s.Plan.Kind != api.PlanImport || area > 5)
		}
		for sets := 1; sets <= 8; sets++ {
			for ways := 1; ways <= 4; ways++ {
				judge(t, sized(9, sets, ways, 6), s, sets == 2 && ways == 3)
			}
		}
	}
}

// P14.1: Dirty has an element for each slot: -1, or a block of the slot's set that is in no other slot.
func TestGoodOfDirty(t *testing.T) {
	for _, x := range []struct {
		dirty []int
		want  bool
	}{
		{nil, false}, {[]int{}, false}, {[]int{-1}, false}, {[]int{-1, -1, -1, -1, -1}, false}, {[]int{-1, -1, -1, -1, -1, -1, -1}, false}, {slices.Repeat([]int{-1}, 12), false}, {slices.Repeat([]int{-1}, 100000), false},
		{[]int{-1, -1, -1, -1, -1, -1}, true}, {[]int{0, 2, 4, 1, 3, 5}, true}, {[]int{8, 6, 4, 7, 5, 3}, true}, {[]int{8, -1, -1, -1, -1, 7}, true}, {[]int{-1, 0, -1, -1, -1, -1}, true}, {[]int{-1, -1, 8, 1, -1, -1}, true},
		{[]int{-2, -1, -1, -1, -1, -1}, false}, {[]int{-1, -1, -1, -1, -1, -2}, false}, {[]int{-1, -1, -1, -1, -3, -1}, false}, {[]int{math.MinInt, -1, -1, -1, -1, -1}, false},
		{[]int{9, -1, -1, -1, -1, -1}, false}, {[]int{-1, -1, -1, 9, -1, -1}, false}, {[]int{10, -1, -1, -1, -1, -1}, false}, {[]int{64, -1, -1, -1, -1, -1}, false}, {[]int{254, -1, -1, -1, -1, -1}, false}, {[]int{256, -1, -1, -1, -1, -1}, false},
		{[]int{-1, -1, -1, 255, -1, -1}, false}, {[]int{1 << 32, -1, -1, -1, -1, -1}, false}, {[]int{-1, -1, -1, math.MaxInt, -1, -1}, false}, {[]int{math.MaxInt - 1, -1, -1, -1, -1, -1}, false},
		{[]int{1, -1, -1, -1, -1, -1}, false}, {[]int{-1, -1, 7, -1, -1, -1}, false}, {[]int{-1, -1, -1, 0, -1, -1}, false}, {[]int{-1, -1, -1, -1, -1, 8}, false}, {[]int{1, 3, 5, 0, 2, 4}, false},
		{[]int{0, 0, -1, -1, -1, -1}, false}, {[]int{0, -1, 0, -1, -1, -1}, false}, {[]int{-1, 8, 8, -1, -1, -1}, false}, {[]int{0, 2, 4, 1, 3, 1}, false}, {[]int{4, -1, -1, 4, -1, -1}, false},
	} {
		for _, s := range []api.State{full(), rolling(), bare(0)} {
			s.Dirty = x.dirty
			judge(t, shape(), s, x.want)
		}
	}
}

// P14.1: each block in each slot alone, for each geometry.
func TestGoodOfEachSlot(t *testing.T) {
	for _, g := range geometries() {
		for slot := range g.Sets * g.Ways {
			for block := -3; block < 70; block++ {
				s, _ := First(g)
				s.Dirty[slot] = block
				judge(t, g, s, block == -1 || block >= 0 && block < g.Blocks && block%g.Sets == slot/g.Ways)
			}
		}
	}
}

// P14.1: Snaps is a valid chain: none, one, MaxSnaps of them, and what chain.Good does not take.
func TestGoodOfSnaps(t *testing.T) {
	for n := range 12 {
		judge(t, shape(), bare(n), n <= 8)
	}
	judge(t, shape(), edited(bare(0), func(s *api.State) { s.Snaps = []api.Snap{} }), true)
	for _, s := range []api.State{plain(), full(), rolling()} {
		for _, edit := range []func(s *api.State){
			func(s *api.State) { s.Snaps[0].Id = 0 }, func(s *api.State) { s.Snaps[0].Id = -1 }, func(s *api.State) { s.Snaps[0].Id = 10 }, func(s *api.State) { s.Snaps[1].Id = 2 }, func(s *api.State) { s.Snaps[1].Id = 1 },
			func(s *api.State) { s.Snaps[1].Id, s.Next = 1000001, 1000001 }, func(s *api.State) { s.Snaps[0], s.Snaps[1] = s.Snaps[1], s.Snaps[0] }, func(s *api.State) { s.Snaps[1] = api.Snap{} }, func(s *api.State) { s.Snaps = append(s.Snaps, api.Snap{}) },
			func(s *api.State) { s.Snaps[0].Changed = nil }, func(s *api.State) { s.Snaps[1].Changed = s.Snaps[1].Changed[:1] }, func(s *api.State) { s.Snaps[1].Changed = append(s.Snaps[1].Changed, 0) }, func(s *api.State) { s.Snaps[1].Changed[1] = 2 },
			func(s *api.State) { s.Snaps[0].Changed[0] = 0b111 }, func(s *api.State) { s.Snaps[0].Changed[1] = 0 }, func(s *api.State) { s.Snaps[1].Changed[0] = 0 },
			func(s *api.State) { s.Snaps[0].Table = nil }, func(s *api.State) { s.Snaps[0].Table = s.Snaps[0].Table[1:] }, func(s *api.State) { s.Snaps[0].Table[1].At = 3 }, func(s *api.State) { s.Snaps[1].Table[0].At = 3 },
			func(s *api.State) { s.Snaps[1].Table[0].At = 6 }, func(s *api.State) { s.Snaps[1].Table[0].At = -1 }, func(s *api.State) { s.Snaps[1].Table[0].At = api.Zeros }, func(s *api.State) { s.Snaps[1].Table[0].Block = 9 },
			func(s *api.State) {
				s.Snaps[0].Table[0], s.Snaps[0].Table[1] = s.Snaps[0].Table[1], s.Snaps[0].Table[0]
			},
		} {
			judge(t, shape(), edited(s, edit), false)
		}
	}
	judge(t, shape(), edited(plain(), func(s *api.State) { s.Snaps[1].Changed = []byte{255, 1} }), true)
}

// P14.1: Next is in the range 1 to 1000001, and greater than all Ids.
func TestGoodOfNext(t *testing.T) {
	for _, x := range []struct {
		next             int
		none, ten, large bool // without snapshots, with the Ids 2 and 10, with a last Id of 1000000
	}{
		{-1, false, false, false}, {0, false, false, false}, {1, true, false, false}, {2, true, false, false}, {3, true, false, false}, {9, true, false, false}, {10, true, false, false}, {11, true, true, false}, {12, true, true, false},
		{255, true, true, false}, {256, true, true, false}, {65536, true, true, false}, {999999, true, true, false}, {1000000, true, true, false}, {1000001, true, true, true}, {1000002, false, false, false}, {1 << 24, false, false, false}, {1<<32 + 11, false, false, false},
	} {
		judge(t, shape(), edited(bare(0), func(s *api.State) { s.Next = x.next }), x.none)
		judge(t, shape(), edited(plain(), func(s *api.State) { s.Next = x.next }), x.ten)
		judge(t, shape(), edited(rolling(), func(s *api.State) { s.Next = x.next }), x.ten)
		judge(t, shape(), edited(plain(), func(s *api.State) { s.Snaps[1].Id, s.Next = 1000000, x.next }), x.large)
	}
	for _, next := range far() {
		for _, s := range []api.State{bare(0), full(), rolling(), plain()} {
			judge(t, shape(), edited(s, func(s *api.State) { s.Next = next }), false)
		}
	}
}

// P14.1: a plan is of one of three kinds.
func TestGoodOfKind(t *testing.T) {
	for _, kind := range append(far(), -2, -1, 0, 1, 2, 3, 4, 255, 256, 257, 258) {
		for _, x := range []struct {
			s    api.State
			kind int
		}{{plain(), api.PlanNone}, {rolling(), api.PlanRoll}, {full(), api.PlanImport}, {bare(0), api.PlanNone}, {bare(8), api.PlanNone}} {
			judge(t, shape(), edited(x.s, func(s *api.State) { s.Plan.Kind = kind }), kind == x.kind)
		}
	}
}

// P14.1: no plan has no Id and no Pairs.
func TestGoodOfPlanNone(t *testing.T) {
	for _, s := range []api.State{plain(), bare(0), bare(1), bare(8)} {
		judge(t, shape(), edited(s, func(s *api.State) { s.Plan.Pairs = []api.Pair{} }), true)
		judge(t, shape(), edited(s, func(s *api.State) { s.Plan.Pairs = pairs(0, 0, 1, 1)[:0] }), true)
		for _, l := range [][]api.Pair{pairs(0, 0), pairs(0, api.Zeros), pairs(0, 3, 2, 0), {{}}, pairs(-1, -1)} {
			judge(t, shape(), edited(s, func(s *api.State) { s.Plan.Pairs = l }), false)
		}
		for _, id := range append(far(), -1, 1, 2, 10, 11, 1000000, 1000001) {
			judge(t, shape(), edited(s, func(s *api.State) { s.Plan.Id = id }), false)
		}
	}
}

// P14.1: a plan to roll has the Id of a snapshot.
func TestGoodOfRollId(t *testing.T) {
	for _, x := range []struct {
		id   int
		want bool
	}{{-1, false}, {0, false}, {1, false}, {2, true}, {3, false}, {9, false}, {10, true}, {11, false}, {300, false}, {1000000, false}, {1<<32 + 2, false}, {2 - 1<<32, false}, {math.MinInt, false}, {math.MaxInt, false}} {
		for _, l := range [][]api.Pair{nil, {}, pairs(0, 3)} {
			judge(t, shape(), edited(rolling(), func(s *api.State) { s.Plan.Id, s.Plan.Pairs = x.id, l }), x.want)
		}
	}
	for n := range 9 {
		for id := -1; id < 10; id++ {
			judge(t, shape(), edited(bare(n), func(s *api.State) { s.Plan = api.Plan{Kind: api.PlanRoll, Id: id} }), id >= 1 && id <= n)
		}
	}
}

// P14.1: the Pairs of a plan to roll: Blocks that ascend, and Ats that a Table has, of whatever block and however often. The last snapshot may have changed blocks without places.
func TestGoodOfRollPairs(t *testing.T) {
	for _, x := range []struct {
		l    []api.Pair
		want bool
	}{
		{pairs(0, 3), true}, {pairs(0, 0), true}, {pairs(8, 4), true}, {pairs(3, 1), true}, {pairs(0, 3, 1, 0), true}, {pairs(0, 3, 8, 3), true}, {pairs(0, 1, 1, 1, 2, 1, 3, 1, 4, 1, 5, 1, 6, 1, 7, 1, 8, 1), true}, {pairs(6, 0, 7, 1, 8, 3), true},
		{pairs(1, 3, 0, 0), false}, {pairs(0, 3, 2, 0, 1, 1), false}, {pairs(8, 1, 0, 3), false}, {pairs(2, 3, 2, 0), false}, {pairs(0, 3, 0, 3), false}, {pairs(0, 3, 8, 0, 8, 1), false},
		{pairs(-1, 3), false}, {pairs(-1, 3, 0, 0), false}, {pairs(math.MinInt, 3), false}, {pairs(9, 3), false}, {pairs(0, 0, 9, 3), false}, {pairs(10, 3), false}, {pairs(64, 3), false}, {pairs(math.MaxInt, 3), false}, {pairs(math.MaxInt, 3, math.MinInt, 0), false},
		{pairs(0, 2), false}, {pairs(0, 5), false}, {pairs(0, 3, 1, 2), false}, {pairs(0, 5, 1, 3), false}, {pairs(0, 6), false}, {pairs(0, 7), false}, {pairs(0, 8), false}, {pairs(0, -1), false}, {pairs(0, -8), false}, {pairs(0, 254), false}, {pairs(0, api.Zeros), false}, {pairs(0, 3, 1, api.Zeros), false}, {pairs(0, 256), false}, {pairs(0, 1<<32), false}, {pairs(0, math.MinInt), false}, {pairs(0, math.MaxInt), false},
	} {
		for _, id := range []int{2, 10} {
			judge(t, shape(), edited(rolling(), func(s *api.State) { s.Plan.Pairs, s.Plan.Id = x.l, id }), x.want)
		}
		judge(t, shape(), edited(bare(2), func(s *api.State) { s.Plan = api.Plan{Kind: api.PlanRoll, Id: 2, Pairs: x.l} }), false)
	}
	judge(t, shape(), edited(full(), func(s *api.State) { s.Plan = rolling().Plan }), true)
}

// P14.1: an import wants room for a snapshot, and a last snapshot that holds all that changed behind it, if there is one.
func TestGoodOfImportSnaps(t *testing.T) {
	for n := range 10 {
		judge(t, shape(), edited(bare(n), func(s *api.State) { s.Plan = api.Plan{Kind: api.PlanImport, Id: 300} }), n < 8)
		judge(t, shape(), edited(bare(n), func(s *api.State) {
			s.Plan = api.Plan{Kind: api.PlanImport, Id: n + 1, Pairs: pairs(0, 0, 8, 5)}
		}), n < 8)
	}
	for block := range 9 {
		judge(t, shape(), edited(full(), func(s *api.State) { s.Snaps[1].Changed[block/8] |= 1 << (block % 8) }), block == 6)
		judge(t, shape(), edited(bare(1), func(s *api.State) {
			s.Snaps[0].Changed[block/8] = 1 << (block % 8)
			s.Plan = api.Plan{Kind: api.PlanImport, Id: 2}
		}), false)
		judge(t, shape(), edited(bare(3), func(s *api.State) {
			s.Snaps[2].Changed[block/8], s.Snaps[2].Table = 1<<(block%8), pairs(block, 5)
			s.Plan = api.Plan{Kind: api.PlanImport, Id: 4, Pairs: pairs(block, 4)}
		}), true)
	}
}

// P14.1: the Id of an import is in the range Next to 1000000.
func TestGoodOfImportId(t *testing.T) {
	for _, next := range []int{11, 12, 300, 999999, 1000000, 1000001} {
		for _, id := range append(far(), -1, 0, 1, 2, 10, 11, 12, 299, 300, 301, 999998, 999999, 1000000, 1000001, 1000002, 1<<32+500) {
			judge(t, shape(), edited(full(), func(s *api.State) { s.Next, s.Plan.Id = next, id }), id >= next && id <= 1000000)
			judge(t, shape(), edited(bare(0), func(s *api.State) { s.Next, s.Plan = next, api.Plan{Kind: api.PlanImport, Id: id} }), id >= next && id <= 1000000)
		}
	}
}

// P14.1: the Pairs of an import: Blocks that ascend, and Ats that are Zeros, or in the area, in no Table and apart.
func TestGoodOfImportPairs(t *testing.T) {
	const z = api.Zeros
	for _, x := range []struct {
		l          []api.Pair
		full, bare bool // with 0, 1, 3 and 4 in Tables; with none there
	}{
		{nil, true, true}, {[]api.Pair{}, true, true}, {pairs(0, 2), true, true}, {pairs(0, 5), true, true}, {pairs(8, 5), true, true}, {pairs(0, 2, 1, 5), true, true}, {pairs(0, 5, 1, 2), true, true},
		{pairs(0, z), true, true}, {pairs(8, z), true, true}, {pairs(0, z, 1, z), true, true}, {pairs(0, z, 1, 2, 2, z), true, true}, {pairs(0, z, 1, z, 2, z, 3, z, 4, z, 5, z, 6, z, 7, z, 8, z), true, true},
		{pairs(0, 0), false, true}, {pairs(0, 1), false, true}, {pairs(0, 3), false, true}, {pairs(6, 1), false, true}, {pairs(0, 4), false, true}, {pairs(0, z, 8, 4), false, true}, {pairs(0, 0, 1, 1, 2, 2, 3, 3, 4, 4, 8, 5), false, true},
		{pairs(0, 2, 1, 2), false, false}, {pairs(0, 2, 1, z, 2, 2), false, false}, {pairs(0, 5, 1, 2, 8, 5), false, false}, {pairs(0, 0, 1, 0), false, false},
		{pairs(0, 6), false, false}, {pairs(0, 7), false, false}, {pairs(0, 8), false, false}, {pairs(0, 199), false, false}, {pairs(0, 200), false, false}, {pairs(0, 253), false, false}, {pairs(0, 254), false, false}, {pairs(0, 256), false, false}, {pairs(0, z, 1, 6), false, false},
		{pairs(0, -1), false, false}, {pairs(0, 2, 1, -1), false, false}, {pairs(0, -2), false, false}, {pairs(0, z-256), false, false}, {pairs(0, z+256), false, false}, {pairs(0, z+1<<32), false, false}, {pairs(0, 2+1<<32), false, false}, {pairs(0, math.MinInt), false, false}, {pairs(0, math.MaxInt), false, false},
		{pairs(1, 2, 0, 5), false, false}, {pairs(1, z, 0, z), false, false}, {pairs(0, 2, 8, 5, 1, z), false, false}, {pairs(1, 2, 1, 5), false, false}, {pairs(1, z, 1, z), false, false}, {pairs(1, 2, 1, 2), false, false},
		{pairs(-1, 2), false, false}, {pairs(-1, z, 0, z), false, false}, {pairs(9, 2), false, false}, {pairs(0, z, 9, z), false, false}, {pairs(64, 2), false, false}, {pairs(math.MinInt, 2), false, false}, {pairs(math.MaxInt, z), false, false}, {pairs(math.MaxInt, z, math.MinInt, z), false, false},
	} {
		judge(t, shape(), edited(full(), func(s *api.State) { s.Plan.Pairs = x.l }), x.full)
		judge(t, shape(), edited(bare(0), func(s *api.State) { s.Plan = api.Plan{Kind: api.PlanImport, Id: 1, Pairs: x.l} }), x.bare)
		judge(t, shape(), edited(bare(7), func(s *api.State) { s.Plan = api.Plan{Kind: api.PlanImport, Id: 8, Pairs: x.l} }), x.bare)
	}
}

// P14.1: each At of one pair of an import, and of a plan to roll, in areas of some sizes, the smallest and the largest one among them.
func TestGoodOfEachPlace(t *testing.T) {
	for _, area := range []int{0, 1, 7, 8, 9, 199, 200} {
		g := sized(9, 2, 3, area)
		for at := -300; at < 600; at++ {
			judge(t, g, edited(bare(0), func(s *api.State) {
				s.Plan = api.Plan{Kind: api.PlanImport, Id: 1, Pairs: pairs(4, at)}
			}), at >= 0 && at < area || at == 255)
			if area > 0 {
				s := edited(bare(1), func(s *api.State) {
					s.Snaps[0].Changed[0], s.Snaps[0].Table = 2, pairs(1, area-1)
					s.Plan = api.Plan{Kind: api.PlanImport, Id: 2, Pairs: pairs(4, at)}
				})
				judge(t, g, s, at >= 0 && at < area-1 || at == 255)
				s.Plan = api.Plan{Kind: api.PlanRoll, Id: 1, Pairs: pairs(4, at)}
				judge(t, g, s, at == area-1)
			}
		}
	}
}

// edits change one number of a state, or one length, each to others near and far.
func edits(s api.State, far []int) []func(s *api.State) {
	var out []func(s *api.State)
	add := func(f func(s *api.State)) { out = append(out, f) }
	number := func(n int, field func(s *api.State) *int) {
		for _, to := range append(far, -2, -1, 0, 1, 2, 3, 5, 8, 255, 1000000, 1000001, n-1, n+1) {
			add(func(s *api.State) { *field(s) = to })
		}
	}
	list := func(l []api.Pair, field func(s *api.State) *[]api.Pair) {
		for i, p := range l {
			number(p.Block, func(s *api.State) *int { return &(*field(s))[i].Block })
			number(p.At, func(s *api.State) *int { return &(*field(s))[i].At })
			add(func(s *api.State) { *field(s) = slices.Delete(*field(s), i, i+1) })
			add(func(s *api.State) { *field(s) = slices.Insert(*field(s), i, p) })
		}
		add(func(s *api.State) { *field(s) = append(*field(s), api.Pair{Block: 8, At: 5}) })
	}
	number(s.Next, func(s *api.State) *int { return &s.Next })
	number(s.Plan.Kind, func(s *api.State) *int { return &s.Plan.Kind })
	number(s.Plan.Id, func(s *api.State) *int { return &s.Plan.Id })
	list(s.Plan.Pairs, func(s *api.State) *[]api.Pair { return &s.Plan.Pairs })
	for i, block := range s.Dirty {
		number(block, func(s *api.State) *int { return &s.Dirty[i] })
		add(func(s *api.State) { s.Dirty = slices.Delete(s.Dirty, i, i+1) })
		add(func(s *api.State) { s.Dirty = slices.Insert(s.Dirty, i, -1) })
	}
	for i, snap := range s.Snaps {
		number(snap.Id, func(s *api.State) *int { return &s.Snaps[i].Id })
		list(snap.Table, func(s *api.State) *[]api.Pair { return &s.Snaps[i].Table })
		for bit := range 8 * len(snap.Changed) {
			add(func(s *api.State) { s.Snaps[i].Changed[bit/8] ^= 1 << (bit % 8) })
		}
		add(func(s *api.State) { s.Snaps[i].Changed = append(s.Snaps[i].Changed, 0) })
		add(func(s *api.State) { s.Snaps[i].Changed = nil })
		add(func(s *api.State) { s.Snaps = slices.Delete(s.Snaps, i, i+1) })
		add(func(s *api.State) { s.Snaps = slices.Insert(s.Snaps, i, s.Snaps[i]) })
	}
	return out
}

// P14.1: valid states, each with one number or one length changed, held against the document's words.
func TestGoodOfOneFault(t *testing.T) {
	r := rand.New(rand.NewSource(2))
	for _, g := range geometries() {
		good, bad := 0, 0
		for _, n := range []int{0, 1, 2, 3, 7, 8} {
			for kind := range 3 {
				s := drawn(r, g, n, kind)
				some := []int{r.Intn(1 + g.Area), r.Intn(g.Blocks), g.Area - 1, g.Area, g.Blocks, 1 << 32}
				for _, edit := range edits(s, some) {
					c := edited(s, edit)
					want := toldGood(g, c)
					if Good(g, c) != want {
						t.Fatalf("Good(%v, %v) is %v", g, c, !want)
					}
					if want {
						good++
					} else {
						bad++
					}
				}
			}
		}
		if good < 50 || bad < 300 {
			t.Errorf("%v: only %d were good, %d not", g, good, bad)
		}
	}
}
