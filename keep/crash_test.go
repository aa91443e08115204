package keep_test

import (
	"math/rand"
	"slices"
	"testing"

	"revetment/api"
	"revetment/core"
	"revetment/keep"
	"revetment/rig"
	"revetment/state"
)

// P19.2: each write and flush of a Copy fails, and a crash leaves any of what is loose: what is told, what the core has in memory, what is on the disks, and what Open tells, are as by the document's words, with a checkpoint and without.
func TestCopyCut(t *testing.T) {
	rnd := rand.New(rand.NewSource(195))
	cut, whole := 0, 0
	for i, x := range plain(16) {
		for _, ring := range []int{5, 6, 12} {
			x.g.Ring = ring
			_, c := x.made(t)
			all := held(c)
			for k := range 4 {
				x.loose = k%2 == 0
				rnd.Shuffle(len(all), func(i, k int) { all[i], all[k] = all[k], all[i] })
				l := all[:1+rnd.Intn(len(all))]
				for fuse := range 24 {
					switch e := x.alike(t, l, fuse, choices(rnd)[(i+k+fuse)%6]); e {
					case api.ErrDown:
						cut++
					case api.OK:
						whole++
					default:
						t.Fatal(i, l, e)
					}
				}
			}
		}
	}
	if cut < 800 || whole < 500 {
		t.Error(cut, whole)
	}
}

// P19.2: behind an error the state in memory is as it was, with what was marked; behind a crash, Open tells what was committed ahead of the Copy, or what the Copy commits.
func TestCopyMemory(t *testing.T) {
	rnd := rand.New(rand.NewSource(196))
	old, young := 0, 0
	for i, x := range plain(16) {
		for fuse := range 20 {
			for _, choice := range choices(rnd) {
				r, c := x.made(t)
				all := held(c)
				before := c.State()
				durable := opened(t, r).State()
				after := state.Copy(before)
				latest := &after.Snaps[len(after.Snaps)-1]
				for k, block := range all {
					latest.Changed[block/8] |= 1 << (block % 8)
					latest.Table = append(latest.Table, api.Pair{Block: block, At: toldFree(c)[k]})
				}
				slices.SortFunc(latest.Table, func(a, b api.Pair) int { return a.Block - b.Block })
				r.Arm(fuse)
				e := keep.Copy(c, all)
				switch e {
				case api.OK:
					says(t, c, after)
				case api.ErrDown:
					says(t, c, before)
				default:
					t.Fatal(i, fuse, e)
				}
				r.Crash(choice[0], choice[1])
				is := opened(t, r).State()
				isOld, isYoung := state.Same(is, durable), state.Same(is, after)
				if !isOld && !isYoung || e == api.OK && !isYoung {
					t.Fatalf("%d, %d: %v", i, fuse, is)
				}
				if e != api.OK && isOld {
					old++
				} else if e != api.OK {
					young++
				}
			}
		}
	}
	if old < 100 || young < 10 {
		t.Error(old, young)
	}
}

// P19.2: a rig that is down: its error, and nothing changes.
func TestCopyDown(t *testing.T) {
	for i, x := range plain(16) {
		r, c := x.made(t)
		all := held(c)
		want, done := c.State(), r.Done()
		r.Arm(0)
		r.Flush(rig.Fast)
		for _, l := range [][]int{all, all[:1], all[len(all)-1:]} {
			if e := keep.Copy(c, l); e != api.ErrDown || r.Done() != done {
				t.Error(i, l, e)
			}
			says(t, c, want)
			looks(t, c)
		}
	}
}

// settle writes what is clean in a slot to the slow disk, which has it in every life of a volume: a crash forgets such a slot.
func settle(c *core.Core) {
	for _, p := range inMap(c.Map(), c.Geom()) {
		if !p.dirty {
			b, _ := c.Slot(p.slot)
			c.PutSlow(p.block, b)
		}
	}
	c.Flush(rig.Slow)
}

// P19.3: the contents of all blocks in the latest snapshot, and in the elder ones, are the same ahead of a Copy and behind it, and behind a crash in it.
func TestPreserved(t *testing.T) {
	rnd := rand.New(rand.NewSource(197))
	var l []sample
	for _, x := range plain(16) {
		x.marked = nil // all is committed, so that a crash takes nothing away
		l = append(l, x)
	}
	for _, g := range geometries() {
		for range 4 {
			x := drawn(rnd, g)
			x.marked = nil
			l = append(l, x)
		}
	}
	copied := 0
	for i, x := range l {
		for fuse := range 20 {
			for _, choice := range choices(rnd) {
				r, c := x.made(t)
				settle(c)
				want := peeks(t, c)
				blocks := held(c)
				rnd.Shuffle(len(blocks), func(i, k int) { blocks[i], blocks[k] = blocks[k], blocks[i] })
				blocks = blocks[:min(len(blocks), len(toldFree(c)))]
				if fuse < 19 {
					r.Arm(fuse)
				}
				e := keep.Copy(c, blocks)
				if e == api.OK && !samePeeks(peeks(t, c), want) {
					t.Fatal(i, fuse, "behind it")
				}
				if e == api.OK {
					copied += len(blocks)
				}
				r.Crash(choice[0], choice[1])
				if !samePeeks(peeks(t, opened(t, r)), want) {
					t.Fatal(i, fuse, choice, "behind a crash")
				}
			}
		}
	}
	if copied < 1000 {
		t.Error(copied)
	}
}

// life is a volume whose blocks are written, moved to the slow disk and taken as snapshots, with crashes between.
type life struct {
	r     *rig.Rig
	c     *core.Core
	taken map[int][]api.Block // what all blocks contained when the snapshot with this Id was taken
	full  int                 // how often there was no room in the area
}

// now is what all blocks contain.
func (x *life) now(t *testing.T) []api.Block {
	t.Helper()
	var l []api.Block
	for block := range x.c.Geom().Blocks {
		b, e := x.c.Now(block)
		if e != api.OK {
			t.Fatal(block, e)
		}
		l = append(l, b)
	}
	return l
}

// clear takes all snapshots away where there is no room for what is held.
func (x *life) clear() api.Errno {
	x.full++
	s := x.c.State()
	s.Snaps = nil
	return x.c.Commit(s)
}

// kept copies what is held of these blocks.
func (x *life) kept(l ...int) api.Errno {
	e := keep.Copy(x.c, l)
	if e == api.ErrSpace {
		return x.clear()
	}
	return e
}

// write overwrites a block in its slot, or in one that there is room for.
func (x *life) write(block int, b api.Block) api.Errno {
	if keep.InSlot(x.c, block) {
		if e := x.kept(block); e != api.OK {
			return e
		}
	}
	m := x.c.Map()
	slot, ok := m.Find(block)
	if !ok {
		slot, ok = m.Room(block)
	}
	if !ok {
		return api.OK
	}
	x.c.Mark(block)
	if e := x.c.PutSlot(slot, b); e != api.OK {
		return e
	}
	m.Put(slot, block, true)
	return api.OK
}

// move moves what a slot contains to the slow disk, if it is dirty.
func (x *life) move(slot int) api.Errno {
	block, dirty, _ := x.c.Map().Block(slot)
	if !dirty {
		return api.OK
	}
	if keep.OnSlow(x.c, block) {
		if e := x.kept(block); e != api.OK {
			return e
		}
	}
	b, e := x.c.Slot(slot)
	if e == api.OK {
		e = x.c.PutSlow(block, b)
	}
	if e == api.OK {
		e = x.c.Flush(rig.Slow)
	}
	if e != api.OK {
		return e
	}
	x.c.Map().Clean(slot)
	return x.c.Commit(x.c.State())
}

// take takes a snapshot, the eighth one in the place of all others.
func (x *life) take(t *testing.T) api.Errno {
	t.Helper()
	if e := x.kept(keep.All(x.c)...); e != api.OK {
		return e
	}
	s := x.c.State()
	if len(s.Snaps) == api.MaxSnaps {
		s.Snaps = nil
	}
	s.Snaps = append(s.Snaps, api.Snap{Id: s.Next, Changed: set(x.c.Geom().Blocks)})
	x.taken[s.Next] = x.now(t)
	s.Next++
	return x.c.Commit(s)
}

// holds checks that each snapshot contains what was taken.
func (x *life) holds(t *testing.T) {
	t.Helper()
	for i, snap := range x.c.State().Snaps {
		for block, want := range x.taken[snap.Id] {
			if b := toldPeek(t, x.c, i, block); b != want {
				t.Fatalf("snapshot %d, block %d: %v, want %v; %v", snap.Id, block, b, want, x.c.State())
			}
		}
	}
}

// P19.3: in long lives with many crashes, each snapshot contains what was taken.
func TestLives(t *testing.T) {
	for seed, g := range []api.Geom{sized(12), sized(40), ringed(api.Geom{Blocks: 9, Sets: 3, Ways: 2, Area: 30}), ringed(api.Geom{Blocks: 20, Sets: 2, Ways: 4, Area: 90})} {
		rnd := rand.New(rand.NewSource(int64(seed)))
		r, c := sample{g: g, s: api.State{Next: 1}}.made(t)
		x := &life{r: r, c: c, taken: map[int][]api.Block{}}
		copies, crashes := 0, 0
		for n := range 3000 {
			if rnd.Intn(20) == 0 {
				r.Arm(rnd.Intn(30))
			}
			e := api.OK
			switch k := rnd.Intn(20); {
			case k < 12:
				e = x.write(rnd.Intn(g.Blocks), filled(n/256, n))
			case k < 18:
				e = x.move(rnd.Intn(g.Sets * g.Ways))
			case k < 19:
				e = x.c.Commit(x.c.State())
			default:
				e = x.take(t)
			}
			if e != api.OK && (e != api.ErrDown || !r.Down()) {
				t.Fatal(g, n, e)
			}
			if e != api.OK || n%200 == 0 {
				fast, slow := make([]byte, 60), make([]byte, 60)
				rnd.Read(fast)
				rnd.Read(slow)
				r.Crash(fast, slow)
				x.c = opened(t, r)
				crashes++
			}
			x.holds(t)
			if l := x.c.State().Snaps; len(l) > 0 {
				copies = max(copies, len(l[len(l)-1].Table))
			}
		}
		if crashes < 50 || copies < 4 || x.full > 100 {
			t.Error(g, crashes, copies, x.full)
		}
	}
}
