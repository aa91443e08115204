package keep_test

import (
	"math"
	"math/rand"
	"slices"
	"testing"

	"revetment/api"
	"revetment/core"
	"revetment/geom"
	"revetment/keep"
	"revetment/rig"
	"revetment/state"
	"revetment/ways"
)

// These tests stand outside of the package: they hold keep to the document's words by what can be seen of a core, and by what is on its rig.

// beside are numbers near the range 0 to n - 1 that are not in it, and far ones.
func beside(n int) []int {
	return []int{-1, n, -2, n + 1, n + 2, -256, 4096, -1 << 31, 1 << 31, 1<<32 - 1, 1 << 32, 1<<32 + 1, math.MinInt, math.MinInt + 1, math.MaxInt - 1, math.MaxInt}
}

// sized is a geometry with 8 blocks and so large an area.
func sized(area int) api.Geom {
	return api.Geom{Blocks: 8, Sets: 2, Ways: 2, Area: area, Ring: 6}
}

func largest() api.Geom { return api.Geom{Blocks: 64, Sets: 8, Ways: 4, Area: 200, Ring: 256} }

// ringed is g with the smallest ring.
func ringed(g api.Geom) api.Geom {
	for g.Ring = 0; !geom.Good(g) && g.Ring <= api.MaxRing; g.Ring++ {
	}
	return g
}

// geometries are of many sizes: with no area, with one block, with more sets than blocks.
func geometries() []api.Geom {
	l := []api.Geom{sized(4), sized(12), largest()}
	for _, g := range []api.Geom{
		{Blocks: 8, Sets: 2, Ways: 2, Area: 9}, {Blocks: 1, Sets: 1, Ways: 1, Area: 1}, {Blocks: 1, Sets: 1, Ways: 2, Area: 0},
		{Blocks: 9, Sets: 3, Ways: 2, Area: 7}, {Blocks: 3, Sets: 8, Ways: 1, Area: 5}, {Blocks: 17, Sets: 1, Ways: 4, Area: 200},
	} {
		l = append(l, ringed(g))
	}
	return l
}

// piece is a block in a slot.
type piece struct {
	slot, block int
	dirty       bool
}

// sample is what a core is made of.
type sample struct {
	g      api.Geom
	s      api.State // what is committed, save Dirty
	slots  []piece   // put into the map ahead of that
	marked []int     // marked behind it, in memory alone
	loose  bool      // all sectors of the slots, the blocks and the area are written again behind it
}

// filled is a block in which no two bytes are alike, another one for each part of the disks and each i below 256.
func filled(part, i int) api.Block {
	var b api.Block
	for k := range b {
		b[k] = byte(3*k + i)
	}
	b[0], b[63] = byte(part), byte(part+1)
	return b
}

// write fills the slots, the blocks and the area.
func write(c *core.Core, part int) {
	g := c.Geom()
	for i := range g.Sets * g.Ways {
		c.PutSlot(i, filled(part, i))
	}
	for i := range g.Blocks {
		c.PutSlow(i, filled(part+3, i))
	}
	for i := range g.Area {
		c.PutArea(i, filled(part+6, i))
	}
}

// made returns a core, the same each time.
func (x sample) made(t *testing.T) (*rig.Rig, *core.Core) {
	t.Helper()
	r, e := rig.New(geom.Fast(x.g)+2, geom.Slow(x.g)+2)
	if e != api.OK {
		t.Fatal(x.g, e)
	}
	c, e := core.Format(r, x.g)
	if e != api.OK {
		t.Fatal(x.g, e)
	}
	write(c, 10)
	c.Flush(rig.Slow)
	for _, p := range x.slots {
		c.Map().Put(p.slot, p.block, p.dirty)
	}
	if e := c.Commit(x.s); e != api.OK {
		t.Fatalf("%v: %v", x, e)
	}
	for _, block := range x.marked {
		c.Mark(block)
	}
	if x.loose {
		write(c, 20)
	}
	return r, c
}

// opened is a core as it is behind a crash that leaves what was flushed.
func opened(t *testing.T, r *rig.Rig) *core.Core {
	t.Helper()
	c, e := core.Open(r)
	if e != api.OK {
		t.Fatal(e)
	}
	return c
}

// pairs makes pairs of numbers: a Block, its At, the next Block, and so on.
func pairs(l ...int) []api.Pair {
	var out []api.Pair
	for i := 0; i+1 < len(l); i += 2 {
		out = append(out, api.Pair{Block: l[i], At: l[i+1]})
	}
	return out
}

// set is the set of these numbers less than n.
func set(n int, l ...int) []byte {
	b := make([]byte, (n+7)/8)
	for _, i := range l {
		b[i/8] |= 1 << (i % 8)
	}
	return b
}

// one has a snapshot: 0 and 7 are held in the slots 0 and 3, 1 (dirty too) and 5 on the slow disk, 2 is clean in a slot, and 3 is in the Table.
func one(area int) sample {
	return sample{
		g:     sized(area),
		s:     api.State{Next: 4, Snaps: []api.Snap{{Id: 3, Changed: set(8, 1, 3, 5), Table: pairs(3, 1)}}},
		slots: []piece{{0, 0, true}, {1, 2, false}, {2, 1, true}, {3, 7, true}},
	}
}

// two has an elder snapshot with other blocks: in the latest one 0 and 1 are held in the slots 1 and 3, 3 and 6 on the slow disk, and 4 is in the Table.
func two(area int) sample {
	return sample{
		g: sized(area),
		s: api.State{Next: 9, Snaps: []api.Snap{
			{Id: 2, Changed: set(8, 0, 3), Table: pairs(0, 2, 3, 0)},
			{Id: 5, Changed: set(8, 3, 4, 6), Table: pairs(4, 5)},
		}},
		slots: []piece{{0, 4, true}, {1, 0, true}, {2, 5, false}, {3, 1, true}},
	}
}

// eight has as many snapshots as there may be, each with a block in the area: in the latest one 3 and 2 are held in the slots 2 and 0, 6 and 0 on the slow disk, and 7 is in the Table.
func eight(area int) sample {
	x := sample{g: sized(area), s: api.State{Next: 100}, slots: []piece{{2, 3, true}, {0, 2, true}, {3, 7, true}}}
	for i := range 8 {
		x.s.Snaps = append(x.s.Snaps, api.Snap{Id: 10*i + 1, Changed: set(8, i), Table: pairs(i, 2*i)})
	}
	x.s.Snaps[7].Changed = set(8, 0, 6, 7)
	return x
}

// rolling is to return to a snapshot: it has the state of one, and places of the area in its plan that a Table has.
func rolling(area int) sample {
	x := one(area)
	x.s.Plan = api.Plan{Kind: api.PlanRoll, Id: 3, Pairs: pairs(3, 1, 4, 1)}
	return x
}

// importing has a plan with places of the area that no Table has: 0 and 7 are held in the slots 0 and 3.
func importing(area int) sample {
	x := one(area)
	x.s.Snaps[0].Changed = set(8, 3)
	x.s.Plan = api.Plan{Kind: api.PlanImport, Id: 4, Pairs: pairs(0, 0, 1, 255, 2, 3)}
	x.slots[2].dirty = false
	return x
}

// plain are samples of 8 blocks with so large an area, which is at least 15.
func plain(area int) []sample {
	l := []sample{one(area), two(area), eight(area), rolling(area), importing(area)}
	for _, x := range l[:3] {
		x.marked = []int{2, 1, 4}
		l = append(l, x)
	}
	return l
}

// drawn makes a sample by luck: a state that is valid, and a map with anything in it.
func drawn(r *rand.Rand, g api.Geom) sample {
	x := sample{g: g, s: api.State{Next: 1}}
	free, often := r.Perm(g.Area), r.Intn(4)
	n := r.Intn(9)
	for i := range n {
		x.s.Next += 1 + r.Intn(3)
		snap := api.Snap{Id: x.s.Next - 1, Changed: set(g.Blocks)}
		for block := range g.Blocks {
			changed := r.Intn(4) < often
			if changed && len(free) > 0 && (i < n-1 && r.Intn(2) == 0 || i == n-1 && r.Intn(3) == 0) {
				snap.Table = append(snap.Table, api.Pair{Block: block, At: free[0]})
				free = free[1:]
			} else if !changed || i < n-1 {
				continue
			}
			snap.Changed[block/8] |= 1 << (block % 8)
		}
		x.s.Snaps = append(x.s.Snaps, snap)
	}
	often = r.Intn(4)
	for slot := range g.Sets * g.Ways {
		// Of a volume with more sets than blocks, some belong to none of its blocks.
		block := slot/g.Ways + g.Sets*r.Intn(1+g.Blocks/g.Sets)
		if r.Intn(4) < often {
			x.slots = append(x.slots, piece{slot, block, block < g.Blocks && r.Intn(3) > 0})
		}
	}
	for r.Intn(2) == 0 {
		x.marked = append(x.marked, r.Intn(g.Blocks+1)-1)
	}
	return x
}

// toldSlot tells, by the document's words, in which slot a block is held, or -1.
func toldSlot(c *core.Core, block int) int {
	g, l := c.Geom(), c.State().Snaps
	if block < 0 || block >= g.Blocks || len(l) == 0 || tabled(l[len(l)-1], block) || changed(l[len(l)-1], block) {
		return -1
	}
	for slot := range g.Sets * g.Ways {
		if b, dirty, ok := c.Map().Block(slot); ok && dirty && b == block {
			return slot
		}
	}
	return -1
}

// toldSlow tells, by the document's words, whether a block is held on the slow disk.
func toldSlow(c *core.Core, block int) bool {
	l := c.State().Snaps
	return block >= 0 && block < c.Geom().Blocks && len(l) > 0 && !tabled(l[len(l)-1], block) && changed(l[len(l)-1], block)
}

func tabled(s api.Snap, block int) bool {
	return slices.ContainsFunc(s.Table, func(p api.Pair) bool { return p.Block == block })
}

func changed(s api.Snap, block int) bool {
	return s.Changed[block/8]>>(block%8)%2 == 1
}

// held are all blocks that are held, those of the slots first.
func held(c *core.Core) []int {
	var slots, slow []int
	for block := range c.Geom().Blocks {
		if toldSlot(c, block) >= 0 {
			slots = append(slots, block)
		}
		if toldSlow(c, block) {
			slow = append(slow, block)
		}
	}
	return append(slots, slow...)
}

// toldFree are the places of the area that neither a Table nor the plan has.
func toldFree(c *core.Core) []int {
	used := map[int]int{}
	for _, snap := range c.State().Snaps {
		for _, p := range snap.Table {
			used[p.At]++
		}
	}
	for _, p := range c.State().Plan.Pairs {
		used[p.At]++
	}
	var l []int
	for at := range c.Geom().Area {
		if used[at] == 0 {
			l = append(l, at)
		}
	}
	return l
}

// toldCopy does, by the document's words, what Copy does with these blocks.
func toldCopy(r *rig.Rig, c *core.Core, blocks []int) api.Errno {
	g, s := c.Geom(), c.State()
	for i, block := range blocks {
		if toldSlot(c, block) < 0 && !toldSlow(c, block) || slices.Index(blocks, block) < i {
			return api.ErrArg
		}
	}
	if len(blocks) == 0 {
		return api.OK
	}
	free := toldFree(c)
	if len(free) < len(blocks) {
		return api.ErrSpace
	}
	latest := &s.Snaps[len(s.Snaps)-1]
	for i, block := range blocks {
		dev, sector := 1, block
		if slot := toldSlot(c, block); slot >= 0 {
			dev, sector = 0, 2+g.Ring+geom.Pages(g)+slot
		}
		b, e := r.Read(dev, sector)
		if e != api.OK {
			return e
		}
		if e := r.Write(1, g.Blocks+free[i], b); e != api.OK {
			return e
		}
		latest.Changed[block/8] |= 1 << (block % 8)
		latest.Table = append(latest.Table, api.Pair{Block: block, At: free[i]})
	}
	slices.SortFunc(latest.Table, func(a, b api.Pair) int { return a.Block - b.Block })
	if e := r.Flush(1); e != api.OK {
		return e
	}
	return c.Commit(s)
}

// toldPeek tells what a snapshot contains, by its index: what the first snapshot from there on has in the area, or else what is on the slow disk of what is held there, or else the current contents.
func toldPeek(t *testing.T, c *core.Core, i, block int) api.Block {
	t.Helper()
	get, n := c.Now, block
	if toldSlow(c, block) {
		get = c.Slow
	}
	for _, snap := range c.State().Snaps[i:] {
		if k := slices.IndexFunc(snap.Table, func(p api.Pair) bool { return p.Block == block }); k >= 0 {
			get, n = c.Area, snap.Table[k].At
			break
		}
	}
	b, e := get(n)
	if e != api.OK {
		t.Fatal(i, block, e)
	}
	return b
}

// peeks are the contents of all blocks in all snapshots.
func peeks(t *testing.T, c *core.Core) [][]api.Block {
	t.Helper()
	l := make([][]api.Block, len(c.State().Snaps))
	for i := range l {
		for block := range c.Geom().Blocks {
			l[i] = append(l[i], toldPeek(t, c, i, block))
		}
	}
	return l
}

func samePeeks(a, b [][]api.Block) bool {
	return slices.EqualFunc(a, b, func(x, y []api.Block) bool { return slices.Equal(x, y) })
}

// content is what the two disks yield.
func content(r *rig.Rig) [2][]api.Block {
	var l [2][]api.Block
	for dev := range l {
		for i := range r.Len(dev) {
			b, _ := r.Read(dev, i)
			l[dev] = append(l[dev], b)
		}
	}
	return l
}

func sameContent(a, b *rig.Rig) bool {
	x, y := content(a), content(b)
	return slices.Equal(x[0], y[0]) && slices.Equal(x[1], y[1])
}

// inMap are the pieces of a map.
func inMap(m *ways.Map, g api.Geom) []piece {
	var l []piece
	for slot := range g.Sets * g.Ways {
		if block, dirty, ok := m.Block(slot); ok {
			l = append(l, piece{slot, block, dirty})
		}
	}
	return l
}

// probed is what a map answers to calls that change it: where its hands are and what it has marked shows in them.
func probed(m *ways.Map, g api.Geom) []int {
	var l []int
	for range 3 * g.Ways {
		for set := range g.Sets {
			slot, ok := m.Room(set)
			if ok {
				m.Put(slot, set+g.Sets*len(l), false)
			}
			l = append(l, slot)
		}
		for set := range g.Sets {
			slot, _ := m.Dirtiest(set)
			m.Clean(slot)
			l = append(l, slot)
		}
	}
	return l
}

// looks checks InSlot, OnSlow and All against the document's words.
func looks(t *testing.T, c *core.Core) {
	t.Helper()
	g := c.Geom()
	var slow []int
	for block := range g.Blocks {
		a, b := keep.InSlot(c, block), keep.OnSlow(c, block)
		if a != (toldSlot(c, block) >= 0) || b != toldSlow(c, block) || a && b {
			t.Fatalf("%d: %v, %v in %v, %v", block, a, b, c.State(), inMap(c.Map(), g))
		}
		if toldSlow(c, block) {
			slow = append(slow, block)
		}
	}
	for _, block := range beside(g.Blocks) {
		if keep.InSlot(c, block) || keep.OnSlow(c, block) {
			t.Fatalf("%d in %v", block, c.State())
		}
	}
	if l := keep.All(c); !slices.Equal(l, slow) {
		t.Fatalf("%v, want %v in %v", l, slow, c.State())
	}
}

// says checks the state of a core.
func says(t *testing.T, c *core.Core, want api.State) {
	t.Helper()
	if s := c.State(); !state.Same(s, want) {
		t.Fatalf("%v\nwant %v", s, want)
	}
}

// The samples of these tests are what they are said to be.
func TestSamples(t *testing.T) {
	for i, x := range plain(16) {
		_, c := x.made(t)
		slots := 0
		for block := range 8 {
			if toldSlot(c, block) >= 0 {
				slots++
			}
		}
		if want := [][2]int{{2, 4}, {2, 4}, {2, 4}, {2, 4}, {2, 2}, {2, 6}, {1, 5}, {1, 6}}[i]; slots != want[0] || len(held(c)) != want[1] {
			t.Error(i, slots, held(c))
		}
	}
	r := rand.New(rand.NewSource(19))
	slots, slow, none := 0, 0, 0
	for _, g := range geometries() {
		for range 30 {
			_, c := drawn(r, g).made(t)
			for block := range g.Blocks {
				switch {
				case toldSlot(c, block) >= 0:
					slots++
				case toldSlow(c, block):
					slow++
				default:
					none++
				}
			}
		}
	}
	if slots < 100 || slow < 300 || none < 300 {
		t.Error(slots, slow, none)
	}
}
