package keep_test

import (
	"math/rand"
	"slices"
	"testing"

	"revetment/api"
	"revetment/core"
	"revetment/keep"
	"revetment/rig"
)

// The chapter's example, for all that may be in the map.
func TestExample(t *testing.T) {
	for _, x := range []sample{{g: sized(4), s: api.State{Next: 1}}, {g: sized(4), s: api.State{Next: 7}, slots: one(4).slots}, {g: sized(0), s: api.State{Next: 2}, slots: eight(0).slots}} {
		_, c := x.made(t)
		for block := range 8 {
			c.Mark(block)
			if keep.InSlot(c, block) || keep.OnSlow(c, block) {
				t.Error(block)
			}
		}
		for _, block := range beside(8) {
			if keep.InSlot(c, block) || keep.OnSlow(c, block) {
				t.Error(block)
			}
		}
		if l := keep.All(c); len(l) != 0 {
			t.Error(l)
		}
	}
}

// P19.1: a nil core.
func TestNil(t *testing.T) {
	for _, block := range append(beside(8), 0, 1, 4, 7) {
		if keep.InSlot(nil, block) || keep.OnSlow(nil, block) {
			t.Error(block)
		}
		if e := keep.Copy(nil, []int{block}); e != api.ErrArg {
			t.Error(block, e)
		}
	}
	if l := keep.All(nil); len(l) != 0 {
		t.Error(l)
	}
	for _, l := range [][]int{nil, {}, {0, 0}, {0, 1, 2}} {
		if e := keep.Copy(nil, l); e != api.ErrArg {
			t.Error(l, e)
		}
	}
}

// P19.1: what is held in the samples, told by hand.
func TestHeld(t *testing.T) {
	for i, want := range []struct{ slots, slow []int }{
		{[]int{0, 7}, []int{1, 5}},
		{[]int{0, 1}, []int{3, 6}},
		{[]int{2, 3}, []int{0, 6}},
		{[]int{0, 7}, []int{1, 5}},
		{[]int{0, 7}, nil},
		{[]int{0, 7}, []int{1, 2, 4, 5}},
		{[]int{0}, []int{1, 2, 3, 6}}, // 4 is in the Table
		{[]int{3}, []int{0, 1, 2, 4, 6}},
	} {
		_, c := plain(16)[i].made(t)
		for block := range 8 {
			if a, b := keep.InSlot(c, block), keep.OnSlow(c, block); a != slices.Contains(want.slots, block) || b != slices.Contains(want.slow, block) {
				t.Error(i, block, a, b)
			}
		}
		if l := keep.All(c); !slices.Equal(l, want.slow) {
			t.Error(i, l)
		}
		looks(t, c)
	}
}

// How a block stands in a snapshot: a Table has no block that Changed has not.
const (
	neither = iota
	inChanged
	inBoth
)

// How a block stands in the map.
const (
	noSlot = iota
	clean
	dirty
)

// put adds a block to a snapshot.
func put(s *api.Snap, block, how, at int) {
	if how != neither {
		s.Changed[block/8] |= 1 << (block % 8)
	}
	if how == inBoth {
		s.Table = append(s.Table, api.Pair{Block: block, At: at})
	}
}

// standing is a sample with n snapshots: in the latest one the block stands as told, in the elder ones it is in the Table or not, and the other blocks stand in the latest one as told of the others.
func standing(g api.Geom, n, block, how, inMap, others int, elder bool) sample {
	x := sample{g: g, s: api.State{Next: 9}}
	for i := range n {
		s := api.Snap{Id: i + 1, Changed: set(g.Blocks)}
		if i < n-1 && elder {
			put(&s, block, inBoth, i)
		}
		x.s.Snaps = append(x.s.Snaps, s)
	}
	latest := &x.s.Snaps[n-1]
	for k := range g.Blocks {
		if k == block {
			put(latest, k, how, 10+k)
		} else {
			put(latest, k, others, 10+k)
		}
	}
	if inMap != noSlot {
		x.slots = []piece{{block % g.Sets * g.Ways, block, inMap == dirty}}
	}
	return x
}

// P19.1: each block, however it stands in the latest snapshot and in the map, with one snapshot, two and eight; elder ones don't count.
func TestStandings(t *testing.T) {
	g := sized(18)
	for _, n := range []int{1, 2, 8} {
		for block := range g.Blocks {
			for k := range 54 {
				how, in, others, elder := k%3, k/3%3, k/9%3, k/27 == 1
				_, c := standing(g, n, block, how, in, others, elder).made(t)
				if got := keep.InSlot(c, block); got != (how == neither && in == dirty) {
					t.Fatal("InSlot", n, block, how, in, others, elder, got)
				}
				if got := keep.OnSlow(c, block); got != (how == inChanged) {
					t.Fatal("OnSlow", n, block, how, in, others, elder, got)
				}
				looks(t, c)
			}
		}
	}
}

// P19.1: the last block of a volume, where a set has bits for numbers behind it.
func TestLastBlocks(t *testing.T) {
	for _, g := range geometries() {
		last := g.Blocks - 1
		for _, block := range []int{0, last / 2, last} {
			for k := range 6 {
				how, in := k%2, k/2
				_, c := standing(g, 1, block, how, in, neither, false).made(t)
				if a, b := keep.InSlot(c, block), keep.OnSlow(c, block); a != (how == neither && in == dirty) || b != (how == inChanged) {
					t.Fatal(g, block, how, in, a, b)
				}
				for _, i := range append(beside(g.Blocks), g.Blocks+7, 8*len(c.State().Snaps[0].Changed)) {
					if keep.InSlot(c, i) || keep.OnSlow(c, i) {
						t.Fatal(g, i)
					}
				}
				looks(t, c)
			}
		}
	}
}

// P19.1: blocks that the map contains, and the volume does not.
func TestNoBlockOfTheVolume(t *testing.T) {
	for _, x := range plain(16) {
		for _, block := range []int{8, 10, 16, 254, 1 << 40} {
			for _, dirty := range []bool{true, false} {
				r, c := x.made(t)
				c.Map().Put(0, block, dirty)
				if at, ok := c.Map().Find(block); at != 0 || !ok {
					t.Fatal(block, at)
				}
				if keep.InSlot(c, block) || keep.OnSlow(c, block) {
					t.Error(block)
				}
				done := r.Done()
				if e := keep.Copy(c, []int{block}); e != api.ErrArg || r.Done() != done {
					t.Error(block, e)
				}
				looks(t, c)
			}
		}
	}
}

// P19.1: step by step, what is held behind each change of a core.
func TestSteps(t *testing.T) {
	_, c := one(8).made(t)
	m := c.Map()
	commit := func(edit func(s *api.State)) {
		s := c.State()
		edit(&s)
		if e := c.Commit(s); e != api.OK {
			t.Fatal(e)
		}
	}
	for i, x := range []struct {
		do          func()
		slots, slow []int
	}{
		{func() {}, []int{0, 7}, []int{1, 5}},
		{func() { c.Mark(0) }, []int{7}, []int{0, 1, 5}},
		{func() { c.Mark(3) }, []int{7}, []int{0, 1, 5}}, // in the Table
		{func() { c.Mark(8); c.Mark(-1) }, []int{7}, []int{0, 1, 5}},
		{func() { m.Clean(3) }, nil, []int{0, 1, 5}},
		{func() { m.Put(3, 7, true) }, []int{7}, []int{0, 1, 5}},
		{func() { m.Drop(3) }, nil, []int{0, 1, 5}},
		{func() { m.Put(3, 7, false) }, nil, []int{0, 1, 5}},
		{func() { m.Put(1, 2, true) }, []int{2}, []int{0, 1, 5}},
		{func() { m.Put(1, 6, true) }, []int{6}, []int{0, 1, 5}}, // 2 has gone
		{func() { m.Clean(0); m.Drop(2) }, []int{6}, []int{0, 1, 5}},
		{func() { m.Touch(1); m.Find(6); m.Dirty() }, []int{6}, []int{0, 1, 5}},
		{func() { m.Put(1, 8, true) }, nil, []int{0, 1, 5}},
		{func() { m.Put(1, 4, true) }, []int{4}, []int{0, 1, 5}},
		{func() { commit(func(s *api.State) {}) }, []int{4}, []int{0, 1, 5}},
		{func() { commit(func(s *api.State) { s.Snaps[0].Changed = set(8, 3, 5) }) }, []int{4}, []int{5}},
		{func() { m.Put(0, 0, true) }, []int{0, 4}, []int{5}},
		{func() { commit(func(s *api.State) { s.Snaps[0].Table = pairs(3, 1, 5, 0) }) }, []int{0, 4}, nil},
		{func() {
			commit(func(s *api.State) { s.Snaps, s.Next = append(s.Snaps, api.Snap{Id: 4, Changed: set(8)}), 5 })
		}, []int{0, 4}, nil},
		{func() { m.Put(2, 5, true); m.Put(3, 3, true) }, []int{0, 3, 4, 5}, nil}, // those of the elder snapshot
		{func() { c.Mark(5); c.Mark(7) }, []int{0, 3, 4}, []int{5, 7}},
		{func() { c.Commit(api.State{}) }, []int{0, 3, 4}, []int{5, 7}}, // not valid
		{func() { commit(func(s *api.State) { s.Snaps = s.Snaps[:1] }) }, []int{0, 4}, nil},
		{func() { commit(func(s *api.State) { s.Snaps = nil }) }, nil, nil},
	} {
		x.do()
		for block := range 8 {
			if a, b := keep.InSlot(c, block), keep.OnSlow(c, block); a != slices.Contains(x.slots, block) || b != slices.Contains(x.slow, block) {
				t.Fatal(i, block, a, b)
			}
		}
		if l := keep.All(c); !slices.Equal(l, x.slow) {
			t.Fatal(i, l)
		}
		looks(t, c)
	}
}

// P19.1: on samples drawn by luck, behind changes drawn by luck, and opened again.
func TestDrawn(t *testing.T) {
	rnd := rand.New(rand.NewSource(191))
	for _, g := range geometries() {
		for n := range 20 {
			r, c := drawn(rnd, g).made(t)
			looks(t, c)
			for range 10 {
				slot, block := rnd.Intn(g.Sets*g.Ways), rnd.Intn(g.Blocks)
				switch rnd.Intn(4) {
				case 0:
					c.Mark(block)
				case 1:
					c.Map().Clean(slot)
				case 2:
					c.Map().Drop(slot)
				default:
					c.Map().Put(slot, block, rnd.Intn(2) == 0)
				}
				looks(t, c)
			}
			if n%2 == 0 {
				r.Crash(nil, nil)
				looks(t, opened(t, r))
			}
		}
	}
}

// asks calls InSlot, OnSlow and All with all sorts of numbers.
func asks(c *core.Core) {
	for range 3 {
		for block := range c.Geom().Blocks {
			keep.InSlot(c, block)
			keep.OnSlow(c, block)
		}
		for _, block := range beside(c.Geom().Blocks) {
			keep.InSlot(c, block)
			keep.OnSlow(c, block)
		}
		keep.All(c)
	}
}

// P19.1: none of the three changes anything: a core that was asked is as one that was not, in memory, in its map's hands and marks, and on the disks, behind a crash too; no fuse burns. They need no rig.
func TestAskingChangesNothing(t *testing.T) {
	rnd := rand.New(rand.NewSource(192))
	l := append(plain(16), drawn(rnd, sized(12)), drawn(rnd, largest()))
	for i, x := range l {
		x.loose = true
		r, c := x.made(t)
		other, d := x.made(t)
		r.Arm(0)
		asks(c)
		if r.Done() != other.Done() || r.Down() {
			t.Error(i, "it wrote")
		}
		looks(t, c)
		says(t, c, d.State())
		if c.Geom() != x.g || !slices.Equal(inMap(c.Map(), x.g), inMap(d.Map(), x.g)) || !slices.Equal(probed(c.Map(), x.g), probed(d.Map(), x.g)) || !sameContent(r, other) {
			t.Error(i, "it changed something")
		}
		r.Crash(nil, nil)
		other.Crash(nil, nil)
		if !sameContent(r, other) {
			t.Error(i, "it flushed")
		}
		c = opened(t, r)
		r.Arm(0)
		r.Flush(rig.Fast)
		asks(c)
		looks(t, c)
	}
}
