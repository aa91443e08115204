package core_test

import (
	"math"
	"math/rand"
	"slices"
	"testing"

	"revetment/api"
	"revetment/core"
	"revetment/geom"
	"revetment/meta"
	"revetment/rig"
	"revetment/state"
)

// twins are a core, and a rig that is treated alike by the document's words: with meta, and with the flush ahead of it.
type twins struct {
	g        api.Geom
	r, other *rig.Rig
	c        *core.Core
	m        *meta.Meta
	s        api.State // in memory, by the document's words
}

func paired(t *testing.T, g api.Geom) *twins {
	t.Helper()
	r, c := formatted(t, g)
	x := &twins{g: g, r: r, c: c, other: strewn(t, g, 3), s: first(g)}
	for i := range g.Blocks {
		put(t, x.other, rig.Slow, i, api.Block{})
	}
	x.other.Flush(rig.Slow)
	var e api.Errno
	if x.m, e = meta.Format(x.other, g, encoded(t, g, first(g))); e != api.OK {
		t.Fatal(e)
	}
	x.alike(t)
	return x
}

// alike checks that both rigs yield the same, and that as much was done on both.
func (x *twins) alike(t *testing.T) {
	t.Helper()
	if x.r.Done() != x.other.Done() || x.r.Down() != x.other.Down() || !same(content(x.r), content(x.other)) {
		t.Fatalf("%d done, %v\nwant %d, %v", x.r.Done(), content(x.r), x.other.Done(), content(x.other))
	}
}

// write writes a sector of a slot, of the blocks and of the area on both rigs.
func (x *twins) write(n int) {
	slot, block, place := n%(x.g.Sets*x.g.Ways), n%x.g.Blocks, n%max(1, x.g.Area)
	x.c.PutSlot(slot, filled(n))
	x.c.PutSlow(block, filled(n+1))
	x.c.PutArea(place, filled(n+2))
	x.other.Write(rig.Fast, geom.Slot(x.g, slot), filled(n))
	x.other.Write(rig.Slow, block, filled(n+1))
	if x.g.Area > 0 {
		x.other.Write(rig.Slow, geom.Area(x.g, place), filled(n+2))
	}
}

// commit commits s with these dirty blocks on both, and returns what core told; the state in memory is the new one if it told OK.
func (x *twins) commit(t *testing.T, s api.State, dirty []int) api.Errno {
	t.Helper()
	fill(x.c.Map(), dirty)
	now := dirtied(s, dirty...)
	want := x.other.Flush(rig.Fast)
	if want == api.OK {
		want = x.m.Commit(encoded(t, x.g, now))
	}
	if e := x.c.Commit(s); e != want {
		t.Fatalf("%v, want %v", e, want)
	}
	if want == api.OK {
		x.s = state.Copy(now)
	}
	x.s.Dirty = dirty // told by State in each case
	says(t, x.c, x.g, x.s)
	x.alike(t)
	return want
}

// crash crashes both rigs, and opens them again.
func (x *twins) crash(t *testing.T, fast, slow []byte) {
	t.Helper()
	x.r.Crash(fast, slow)
	x.other.Crash(fast, slow)
	x.alike(t)
	var e api.Errno
	if x.m, e = meta.Open(x.other); e != api.OK {
		t.Fatal(e)
	}
	if x.s, e = state.Decode(x.g, x.m.Bytes()); e != api.OK {
		t.Fatal(e)
	}
	x.c = opensAs(t, x.r, x.g, x.s)
}

// P18.3: each state behind each other one, with and without a crash between.
func TestCommit(t *testing.T) {
	for i, a := range states() {
		for k, b := range states() {
			x := paired(t, ringed(6+(i+k)%6))
			for n, s := range []api.State{a, b, a, a, b} {
				x.write(n)
				if e := x.commit(t, s, dirties()[(i+2*k+n)%len(dirties())]); e != api.OK {
					t.Fatal(e)
				}
				if (i+k+n)%2 == 0 {
					x.crash(t, nil, nil)
				}
			}
		}
	}
}

// P18.3: what Commit writes and flushes, and in which order: each of its writes and flushes fails, those of a checkpoint too, and a crash leaves all that is loose, or none, or some of it. Behind an error the state in memory is as it was.
func TestCommitOrder(t *testing.T) {
	g, l := shape(), states()
	rnd := rand.New(rand.NewSource(18))
	cut, checkpoints := 0, 0
	for ahead := range 4 {
		for i, s := range l {
			for fuse := range 14 {
				for choice := range 4 {
					x := paired(t, g)
					for n := range ahead {
						x.commit(t, l[(i+n+1)%len(l)], dirties()[n])
					}
					x.write(fuse)
					x.r.Arm(fuse)
					x.other.Arm(fuse)
					room := x.m.Room()
					if x.commit(t, s, dirties()[(i+ahead)%len(dirties())]) != api.OK {
						cut++
					} else if x.m.Room() >= room {
						checkpoints++
					}
					fast, slow := make([]byte, 40), make([]byte, 40)
					switch choice {
					case 1:
						fast, slow = whole(), whole()
					case 2, 3:
						rnd.Read(fast)
						rnd.Read(slow)
					}
					x.crash(t, fast, slow)
				}
			}
		}
	}
	if cut < 1000 || checkpoints < 100 {
		t.Error(cut, checkpoints)
	}
}

// P18.3: the largest geometry.
func TestCommitLargest(t *testing.T) {
	x := paired(t, largest())
	want := crowded()
	for n := range 6 {
		x.write(n)
		if e := x.commit(t, want, crowded().Dirty); e != api.OK {
			t.Fatal(e)
		}
		x.crash(t, nil, nil)
		x.commit(t, api.State{Next: 1 + n}, noDirty(largest()))
	}
}

// P18.3: a state that is the same already is flushed, and not written: what is loose on the fast disk is durable then, and what is loose on the slow one is not.
func TestCommitOfTheSame(t *testing.T) {
	for _, s := range states() {
		r := stored(t, shape(), dirtied(s, -1, 6, -1, 7))
		c := opens(t, r)
		for i := range 4 {
			c.PutSlot(i, filled(i))
			c.PutSlow(i, filled(i))
			c.PutArea(i, filled(i))
		}
		done := r.Done()
		if e := c.Commit(c.State()); e != api.OK || r.Done() != done+1 {
			t.Fatal(e, r.Done()-done)
		}
		crash(r, false)
		for i := range 4 {
			if b, e := c.Slot(i); b != filled(i) || e != api.OK {
				t.Fatal(i, b, e)
			}
			if b, e := c.Slow(i); b != junk(rig.Slow, i) || e != api.OK {
				t.Fatal(i, b, e)
			}
			if b, e := c.Area(i); b != junk(rig.Slow, 8+i) || e != api.OK {
				t.Fatal(i, b, e)
			}
		}
		// the error of flushing is told though there is nothing to be written
		r.Arm(0)
		if e := c.Commit(c.State()); e != api.ErrDown || !r.Down() {
			t.Fatal(e)
		}
		says(t, c, shape(), dirtied(s, -1, 6, -1, 7))
	}
}

// P18.3: whatever Dirty is handed in, that of the map is committed.
func TestCommitOfOtherDirty(t *testing.T) {
	for i, s := range states() {
		for k, l := range [][]int{nil, {}, {-1, -1, -1, -1}, {0, 2, 1, 3}, {1, 0, 0, 0}, {-1, 6, -1}, {-1, 6, -1, 7, -1}, {8, -2, 1 << 40, math.MinInt}, slices.Repeat([]int{5}, 1000)} {
			r, c := formatted(t, shape())
			for n, dirty := range dirties() {
				fill(c.Map(), dirty)
				if e := c.Commit(dirtied(s, l...)); e != api.OK {
					t.Fatal(i, k, n, e)
				}
				says(t, c, shape(), dirtied(s, dirty...))
				opensAs(t, r, shape(), dirtied(s, dirty...))
			}
		}
	}
}

// P18.3: if the map contains what is no block of the volume, dirty, no state is valid; clean, it does no harm.
func TestCommitOfNoBlock(t *testing.T) {
	for _, s := range states() {
		r, c := formatted(t, shape())
		done := r.Done()
		for _, block := range []int{8, 10, 254, 1 << 40} {
			c.Map().Put(1, block, true)
			if e := c.Commit(dirtied(s, -1, -1, -1, -1)); e != api.ErrForm || r.Done() != done {
				t.Fatal(block, e)
			}
			says(t, c, shape(), dirtied(states()[0], -1, block, -1, -1))
			opensAs(t, r, shape(), first(shape()))
		}
		c.Map().Clean(1)
		if e := c.Commit(s); e != api.OK {
			t.Fatal(e)
		}
		opensAs(t, r, shape(), dirtied(s, -1, -1, -1, -1))
	}
}

// flaws make the state with two snapshots not valid, each in one of its parts.
func flaws() []func(s *api.State) {
	plan := func(kind, id int, l ...int) func(s *api.State) {
		return func(s *api.State) { s.Plan = api.Plan{Kind: kind, Id: id, Pairs: pairs(l...)} }
	}
	alone := func(id int, l ...int) func(s *api.State) { // an import without snapshots
		return func(s *api.State) {
			s.Snaps = nil
			plan(api.PlanImport, id, l...)(s)
		}
	}
	l := []func(s *api.State){
		func(s *api.State) { s.Snaps = append(eight(), api.Snap{Id: 99, Changed: []byte{0}}); s.Next = 100 },
		func(s *api.State) { s.Snaps[0], s.Snaps[1] = s.Snaps[1], s.Snaps[0] },
		func(s *api.State) { s.Snaps[1].Id = s.Snaps[0].Id },
		func(s *api.State) { s.Snaps[1].Changed = nil },
		func(s *api.State) { s.Snaps[1].Changed = []byte{0b10011000, 0} },
		func(s *api.State) { s.Snaps[0].Changed[0] |= 2 }, // of an earlier snapshot, not in its Table
		func(s *api.State) { s.Snaps[0].Changed[0] &^= 1 },
		func(s *api.State) { s.Snaps[0].Table = pairs(2, 1, 0, 3) },
		func(s *api.State) { s.Snaps[0].Table = pairs(0, 3) },
		func(s *api.State) { s.Snaps[0].Table = pairs(0, 3, 2, 3) },
		func(s *api.State) { s.Snaps[1].Table = pairs(4, 1) }, // a place of the other Table
		func(s *api.State) { s.Snaps[1].Table = pairs(5, 0) },
		func(s *api.State) { s.Snaps[1].Table = pairs(4, 0, 4, 2) },
		func(s *api.State) { s.Next = 7 },
		plan(api.PlanNone, 3),
		plan(api.PlanNone, 0, 0, 3),
		plan(api.PlanRoll, 4),
		plan(api.PlanRoll, 3, 2, 1, 0, 3),
		plan(api.PlanRoll, 3, 0, 2),
		plan(api.PlanRoll, 3, 8, 3),
		plan(api.PlanImport, 9), // not all that changed is in the Table
		func(s *api.State) { s.Snaps = eight(); s.Next = 81; plan(api.PlanImport, 90)(s) },
		alone(7),
		alone(1000001),
		alone(9, 0, 4),
		alone(9, 0, 1, 1, 1),
		alone(9, 1, 255, 0, 255),
		func(s *api.State) { s.Snaps[1].Changed[0] = 0b00010000; plan(api.PlanImport, 9, 0, 0)(s) },
	}
	for _, n := range append(far(), -1, 0, 1000001, 1000002) {
		if n < 8 || n > 1000001 {
			l = append(l, func(s *api.State) { s.Next = n })
		}
		if n != 0 {
			l = append(l, func(s *api.State) { s.Plan.Id = n })
		}
		l = append(l,
			func(s *api.State) { s.Snaps[0].Id = n },
			func(s *api.State) { s.Snaps[1].Id = n },
			func(s *api.State) { s.Snaps[1].Table[0].Block = n },
			func(s *api.State) { s.Snaps[0].Table[0].At = n },
			func(s *api.State) { s.Plan.Kind = n ^ 4 },
		)
	}
	return l
}

// P18.3: a state that is not valid in one of its parts: neither a write nor a flush is made, no fuse burns, and the state in memory stays, with what was marked.
func TestCommitNotValid(t *testing.T) {
	good := states()[3]
	for i, flaw := range flaws() {
		s := state.Copy(good)
		flaw(&s)
		if state.Good(shape(), dirtied(s, -1, 6, -1, 7)) {
			t.Errorf("%d: %v is valid", i, s)
			continue
		}
		r := stored(t, shape(), dirtied(states()[2], -1, 6, -1, 7))
		c := opens(t, r)
		c.PutSlot(0, filled(1))
		c.PutSlow(0, filled(1))
		c.Mark(3)
		want := c.State()
		before, done := content(r), r.Done()
		for _, l := range append(dirties(), nil) {
			for _, fuse := range []int{-1, 0} {
				r.Arm(fuse)
				if e := c.Commit(dirtied(s, l...)); e != api.ErrForm {
					t.Fatalf("%d: %v", i, e)
				}
				says(t, c, shape(), want)
			}
		}
		if r.Done() != done || r.Down() || !same(content(r), before) {
			t.Fatalf("%d: it wrote", i)
		}
		r.Flush(rig.Fast)
		if e := c.Commit(s); !r.Down() || e != api.ErrForm { // ahead of ErrDown
			t.Fatalf("%d: %v", i, e)
		}
		if e := c.Commit(good); e != api.ErrDown {
			t.Fatalf("%d: %v", i, e)
		}
		says(t, c, shape(), want)
	}
}

// P18.3: of a rig that is down: the state in memory stays.
func TestCommitDown(t *testing.T) {
	for _, s := range states() {
		for _, dirty := range dirties() {
			r := stored(t, shape(), dirtied(states()[2], -1, 6, -1, 7))
			c := opens(t, r)
			done := r.Done()
			r.Arm(0)
			r.Flush(rig.Slow)
			fill(c.Map(), dirty)
			if e := c.Commit(s); e != api.ErrDown || r.Done() != done {
				t.Fatal(e)
			}
			says(t, c, shape(), dirtied(states()[2], dirty...))
			r.Crash(whole(), whole())
			opensAs(t, r, shape(), dirtied(states()[2], -1, 6, -1, 7))
		}
	}
}
