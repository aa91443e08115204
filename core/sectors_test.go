package core_test

import (
	"math/rand"
	"slices"
	"testing"

	"revetment/api"
	"revetment/core"
	"revetment/geom"
	"revetment/rig"
	"revetment/state"
)

// part is a part of a disk that a core reads and writes.
type part struct {
	name       string
	dev, first int // its first sector
	count      int
	get        func(i int) (api.Block, api.Errno)
	put        func(i int, b api.Block) api.Errno
}

// parts are those of a core: by the document's words, the slots end the fast disk, the blocks begin the slow one, and the area follows them.
func parts(c *core.Core, g api.Geom) []part {
	return []part{
		{"slot", 0, 2 + g.Ring + geom.Pages(g), g.Sets * g.Ways, c.Slot, c.PutSlot},
		{"slow", 1, 0, g.Blocks, c.Slow, c.PutSlow},
		{"area", 1, g.Blocks, g.Area, c.Area, c.PutArea},
	}
}

// filled is a block in which no two bytes are alike, another one for each n below 256.
func filled(n int) api.Block {
	var b api.Block
	for i := range b {
		b[i] = byte(4*i + n)
	}
	return b
}

// P18.2: which sector each method reads and writes; no other one changes, and nothing is flushed.
func TestSectors(t *testing.T) {
	for _, g := range shapes() {
		r, c := formatted(t, g)
		for _, p := range parts(c, g) {
			for i := range p.count {
				put(t, r, p.dev, p.first+i, filled(i))
				r.Flush(p.dev)
				done := r.Done()
				if b, e := p.get(i); b != filled(i) || e != api.OK || r.Done() != done {
					t.Fatal(g, p.name, i, b, e)
				}
				want := content(r)
				if e := p.put(i, filled(i+1)); e != api.OK || r.Done() != done+1 {
					t.Fatal(g, p.name, i, e)
				}
				durable := want.copied()
				want[p.dev][p.first+i] = filled(i + 1)
				if !same(content(r), want) {
					t.Fatalf("%v: %s %d: %v", g, p.name, i, content(r))
				}
				if b, e := p.get(i); b != filled(i+1) || e != api.OK {
					t.Fatal(g, p.name, i, b, e)
				}
				says(t, c, g, first(g)) // neither the state nor the map knows
				crash(r, i%2 == 0)
				if i%2 > 0 {
					want = durable
				}
				if !same(content(r), want) {
					t.Fatalf("%v: %s %d was flushed", g, p.name, i)
				}
			}
		}
	}
}

// P18.2: each of several versions is read as soon as it is written.
func TestVersions(t *testing.T) {
	_, c := formatted(t, shape())
	for _, p := range parts(c, shape()) {
		for n := range 5 {
			for i := range p.count {
				if e := p.put(i, filled(10*n+i)); e != api.OK {
					t.Fatal(p.name, i, e)
				}
			}
			for i := range p.count {
				if b, e := p.get(i); b != filled(10*n+i) || e != api.OK {
					t.Fatal(p.name, i, b, e)
				}
			}
		}
	}
}

// P18.2: numbers of no slot, no block and no place: ErrArg, ahead of an error of the rig; nothing changes, and no fuse burns.
func TestNoSuchSector(t *testing.T) {
	for _, g := range shapes() {
		r, c := formatted(t, g)
		before, done := content(r), r.Done()
		for _, down := range []bool{false, true} {
			r.Arm(0)
			if down {
				r.Flush(rig.Fast)
			}
			for _, p := range parts(c, g) {
				for _, i := range beside(p.count) {
					b, e := p.get(i)
					if f := p.put(i, api.Block{1}); b != (api.Block{}) || e != api.ErrArg || f != api.ErrArg {
						t.Errorf("%v: %s %d: %v, %v, %v", g, p.name, i, b, e, f)
					}
				}
			}
			for _, i := range beside(g.Blocks) {
				if b, e := c.Now(i); b != (api.Block{}) || e != api.ErrArg {
					t.Errorf("%v: %d: %v, %v", g, i, b, e)
				}
			}
			if r.Down() != down || r.Done() != done {
				t.Error(g, "a fuse burnt")
			}
		}
		r.Crash(nil, nil)
		if !same(content(r), before) {
			t.Error(g, "something changed")
		}
	}
}

// P18.2: the errors of the rig. An empty fuse hinders no read, but a write; then nothing succeeds.
func TestRigErrors(t *testing.T) {
	for _, g := range shapes() {
		for k := range 3 {
			r, c := formatted(t, g)
			for _, p := range parts(c, g) {
				for i := range p.count {
					p.put(i, filled(i))
				}
			}
			r.Flush(rig.Fast)
			r.Flush(rig.Slow)
			before, done := content(r), r.Done()
			p := parts(c, g)[k]
			if p.count == 0 {
				continue
			}
			i := p.count / 2
			r.Arm(1)
			if e := p.put(i, filled(i)); e != api.OK || r.Down() || r.Done() != done+1 {
				t.Fatal(g, p.name, e)
			}
			if b, e := p.get(i); b != filled(i) || e != api.OK {
				t.Fatal(g, p.name, b, e)
			}
			if e := p.put(i, api.Block{1}); e != api.ErrDown || !r.Down() || r.Done() != done+1 {
				t.Fatal(g, p.name, e)
			}
			downed(t, c, g)
			r.Crash(nil, nil)
			if !same(content(r), before) {
				t.Fatal(g, p.name, content(r))
			}
		}
	}
}

// downed checks that nothing succeeds on a rig that is down, and that no sector is told.
func downed(t *testing.T, c *core.Core, g api.Geom) {
	t.Helper()
	for _, p := range parts(c, g) {
		for i := range p.count {
			b, e := p.get(i)
			if f := p.put(i, api.Block{1}); b != (api.Block{}) || e != api.ErrDown || f != api.ErrDown {
				t.Fatal(g, p.name, i, b, e, f)
			}
		}
	}
	for i := range g.Blocks {
		if b, e := c.Now(i); b != (api.Block{}) || e != api.ErrDown {
			t.Fatal(g, i, b, e)
		}
	}
	for dev := range 2 {
		if e := c.Flush(dev); e != api.ErrDown {
			t.Fatal(g, dev, e)
		}
	}
	if e := c.Commit(c.State()); e != api.ErrDown {
		t.Fatal(g, e)
	}
}

// P18.2: what a block contains, step by step: in a slot, clean or dirty, and on the slow disk.
func TestNow(t *testing.T) {
	_, c := formatted(t, shape())
	m := c.Map()
	slow, slot, later, again := filled(1), filled(2), filled(3), filled(4)
	for i, x := range []struct {
		do   func()
		want api.Block // of block 3, which belongs to the slots 2 and 3
	}{
		{func() {}, api.Block{}},
		{func() { c.PutSlow(3, slow) }, slow},
		{func() { c.PutSlot(2, slot) }, slow},
		{func() { m.Put(2, 3, true) }, slot},
		{func() { c.PutSlow(3, later) }, slot},
		{func() { m.Clean(2) }, slot},
		{func() { m.Put(3, 3, false) }, slot}, // it is in another slot
		{func() { c.PutSlot(3, again) }, slot},
		{func() { m.Drop(2) }, later},
		{func() { m.Put(3, 3, false) }, again},
		{func() { c.PutSlot(3, slot) }, slot},
		{func() { c.PutSlot(2, slow) }, slot},
		{func() { c.PutSlow(2, slow); c.PutSlow(4, slow); c.PutArea(3, slow) }, slot},
		{func() { m.Put(3, 5, true) }, later},
		{func() { m.Put(2, 3, true) }, slow},
		{func() { c.Commit(c.State()) }, slow},
		{func() { m.Drop(2) }, later},
	} {
		x.do()
		if b, e := c.Now(3); b != x.want || e != api.OK {
			t.Fatal(i, b, e)
		}
	}
}

// P18.2: the contents of all blocks, behind each change of the map and of the sectors, drawn by luck.
func TestNowOfAll(t *testing.T) {
	for k, g := range shapes() {
		r, c := formatted(t, g)
		rnd := rand.New(rand.NewSource(int64(k)))
		slots := make([]api.Block, g.Sets*g.Ways)
		for i := range slots {
			slots[i], _ = r.Read(0, geom.Slot(g, i))
		}
		slow := make([]api.Block, g.Blocks)
		in := slices.Repeat([]int{-1}, len(slots))
		for n := range 400 {
			slot, block := rnd.Intn(len(slots)), rnd.Intn(g.Blocks)
			switch rnd.Intn(5) {
			case 0:
				slots[slot] = filled(n)
				c.PutSlot(slot, slots[slot])
			case 1:
				slow[block] = filled(n)
				c.PutSlow(block, slow[block])
			case 2:
				c.Map().Drop(slot)
				in[slot] = -1
			case 3:
				c.Map().Clean(slot)
			default:
				c.Map().Put(slot, block, n%2 == 0)
				if at := slices.Index(in, block); block%g.Sets == slot/g.Ways && (at < 0 || at == slot) {
					in[slot] = block
				}
			}
			for block := range g.Blocks {
				want := slow[block]
				if at := slices.Index(in, block); at >= 0 {
					want = slots[at]
				}
				if b, e := c.Now(block); b != want || e != api.OK {
					t.Fatal(g, n, block, b, e)
				}
			}
		}
	}
}

// P18.2: the map takes blocks that the volume does not have; they contain nothing.
func TestNowOfNone(t *testing.T) {
	_, c := formatted(t, shape())
	c.PutSlot(0, filled(1))
	for _, block := range []int{8, 10, 1 << 20} {
		c.Map().Put(0, block, block == 8)
		if b, e := c.Now(block); b != (api.Block{}) || e != api.ErrArg {
			t.Error(block, b, e)
		}
		if slot, ok := c.Map().Find(block); slot != 0 || !ok {
			t.Error(block, slot, ok)
		}
	}
}

// P18.2: Flush settles what is loose on this disk, and on no other.
func TestFlush(t *testing.T) {
	for _, g := range shapes() {
		for dev := range 2 {
			r, c := formatted(t, g)
			want := content(r)
			for _, p := range parts(c, g) {
				for i := range p.count {
					p.put(i, filled(i))
					if p.dev == dev {
						want[dev][p.first+i] = filled(i)
					}
				}
			}
			done := r.Done()
			if e := c.Flush(dev); e != api.OK || r.Done() != done+1 {
				t.Fatal(g, dev, e)
			}
			says(t, c, g, first(g))
			crash(r, false)
			if !same(content(r), want) {
				t.Fatal(g, dev, content(r))
			}
		}
	}
}

// P18.2: the errors of Flush: of numbers that are no disk's, also when the rig is down; and those of the rig.
func TestFlushErrors(t *testing.T) {
	for dev := range 2 {
		r, c := formatted(t, shape())
		done := r.Done()
		r.Arm(1)
		for _, i := range beside(2) {
			if e := c.Flush(i); e != api.ErrArg {
				t.Error(i, e)
			}
		}
		if e := c.Flush(dev); e != api.OK || r.Done() != done+1 {
			t.Error(dev, e)
		}
		for _, i := range beside(2) {
			if e := c.Flush(i); e != api.ErrArg || r.Down() {
				t.Error(i, e)
			}
		}
		c.PutSlot(0, api.Block{1})
		r.Crash(nil, nil)
		r.Arm(0)
		if e := c.Flush(dev); e != api.ErrDown || !r.Down() || r.Done() != done+1 {
			t.Error(dev, e)
		}
		for _, i := range beside(2) {
			if e := c.Flush(i); e != api.ErrArg {
				t.Error(i, e)
			}
		}
		if e := c.Flush(1 - dev); e != api.ErrDown {
			t.Error(dev, e)
		}
	}
}

// markable are states of 9 blocks with no snapshot, one, and more: two of the latest one's blocks have changed.
func markable() []api.State {
	snap := func(id int, a, b byte) api.Snap { return api.Snap{Id: id, Changed: []byte{a, b}} }
	held := snap(2, 1, 0)
	held.Table = pairs(0, 0)
	var l []api.Snap
	for i := range 7 {
		l = append(l, snap(i+1, 0, 0))
	}
	return []api.State{
		{Next: 1},
		{Next: 2, Snaps: []api.Snap{snap(1, 4, 1)}},
		{Next: 9, Snaps: []api.Snap{held, snap(8, 0x82, 0)}},
		{Next: 9, Snaps: append(l, snap(8, 0x82, 0))},
		{Next: 9, Snaps: []api.Snap{held}, Plan: api.Plan{Kind: api.PlanRoll, Id: 2, Pairs: pairs(5, 0)}},
	}
}

// marked9 is s with these blocks added to what has changed since its latest snapshot.
func marked9(s api.State, blocks ...int) api.State {
	s = state.Copy(s)
	for _, block := range blocks {
		if n := len(s.Snaps); n > 0 && block >= 0 && block < 9 {
			s.Snaps[n-1].Changed[block/8] |= 1 << (block % 8)
		}
	}
	return s
}

// P18.2: Mark of each block, and of numbers that are none: those behind the last block for which a set has bits too.
func TestMark(t *testing.T) {
	g := api.Geom{Blocks: 9, Sets: 2, Ways: 2, Area: 1, Ring: 7}
	for _, s := range markable() {
		s = dirtied(s, -1, 4, 7, -1)
		for _, block := range append(beside(9), 0, 1, 2, 3, 4, 5, 6, 7, 8, 10, 12, 15, 16, 17, 64) {
			r := stored(t, g, s)
			c := opens(t, r)
			before, done := content(r), r.Done()
			for range 2 { // marked already, the second time
				c.Mark(block)
				says(t, c, g, marked9(s, block))
			}
			if r.Done() != done || !same(content(r), before) {
				t.Fatal(block, "it wrote")
			}
			c.Mark(3)
			c.Mark(8)
			says(t, c, g, marked9(s, block, 3, 8))
			opensAs(t, r, g, s) // in memory alone
			crash(r, true)
			opensAs(t, r, g, s)
		}
	}
}

// P18.2: what was marked is durable once it is committed with the state; a state without it takes it away.
func TestMarkAndCommit(t *testing.T) {
	g := api.Geom{Blocks: 9, Sets: 2, Ways: 2, Area: 1, Ring: 7}
	for _, s := range markable() {
		s = dirtied(s, -1, 4, 7, -1)
		r := stored(t, g, s)
		c := opens(t, r)
		c.Mark(5)
		c.Mark(8)
		if e := c.Commit(c.State()); e != api.OK {
			t.Fatal(e)
		}
		crash(r, false)
		c = opensAs(t, r, g, marked9(s, 5, 8))
		c.Mark(6)
		if e := c.Commit(s); e != api.OK {
			t.Fatal(e)
		}
		says(t, c, g, s)
		opensAs(t, r, g, s)
	}
}

// P18.2: Mark needs no rig: of one that is down too, the state in memory is marked.
func TestMarkWhenDown(t *testing.T) {
	s := dirtied(states()[1], -1, -1, -1, -1)
	r := stored(t, shape(), s)
	c := opens(t, r)
	r.Arm(0)
	c.Mark(2)
	if r.Down() {
		t.Error("a fuse burnt")
	}
	if l := c.State().Snaps; !slices.Equal(l[0].Changed, []byte{4}) {
		t.Error(l)
	}
}
