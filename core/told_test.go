package core_test

import (
	"hash/fnv"
	"math"
	"slices"
	"testing"

	"revetment/api"
	"revetment/core"
	"revetment/geom"
	"revetment/meta"
	"revetment/rig"
	"revetment/state"
	"revetment/ways"
)

// These tests stand outside of the package: they hold core to the document's words by what can be seen of it, and by what is on the rig.

// far are numbers at the ends of the type, and where fewer bits end.
func far() []int {
	return []int{math.MinInt, math.MinInt + 1, -1 << 32, -1 << 31, -4096, -256, 4096, 1 << 31, 1<<32 - 1, 1 << 32, 1<<32 + 1, math.MaxInt - 1, math.MaxInt}
}

// beside are numbers near the range 0 to n - 1 that are not in it, and far ones.
func beside(n int) []int {
	return append(far(), -2, -1, n, n+1, n+2)
}

// shape is a geometry like the one of chapter 7, with a ring of 6.
func shape() api.Geom { return api.Geom{Blocks: 8, Sets: 2, Ways: 2, Area: 4, Ring: 6} }

// ringed is the same with another ring.
func ringed(n int) api.Geom {
	g := shape()
	g.Ring = n
	return g
}

func smallest() api.Geom { return api.Geom{Blocks: 1, Sets: 1, Ways: 1, Area: 0, Ring: 4} }

func largest() api.Geom { return api.Geom{Blocks: 64, Sets: 8, Ways: 4, Area: 200, Ring: 256} }

// shapes are the smallest geometry and the largest one, and others.
func shapes() []api.Geom {
	return []api.Geom{
		shape(), smallest(), largest(), ringed(11),
		{Blocks: 9, Sets: 5, Ways: 1, Area: 1, Ring: 5},
		{Blocks: 3, Sets: 8, Ways: 2, Area: 7, Ring: 9}, // more sets than blocks
	}
}

// strange are geometries that are not valid, each in one of its numbers, or in all.
func strange() []api.Geom {
	l := []api.Geom{{}, ringed(4), ringed(257)}
	for _, n := range append(far(), -1, 0, 65) {
		g := shape()
		g.Blocks = n
		l = append(l, g)
	}
	for _, n := range append(far(), -1, 0, 9) {
		g := shape()
		g.Sets = n
		l = append(l, g)
	}
	for _, n := range append(far(), -1, 0, 5) {
		g := shape()
		g.Ways = n
		l = append(l, g)
	}
	for _, n := range append(far(), -1, 201) {
		g := shape()
		g.Area = n
		l = append(l, g)
	}
	for _, n := range append(far(), -1, 0, 1) {
		l = append(l, ringed(n))
	}
	return l
}

// marked lays out a marked sector by the document's words, with the library's checksum.
func marked(mark byte, seq uint32, index int, body []byte) api.Block {
	var b api.Block
	b[0] = mark
	b[1], b[2], b[3], b[4] = byte(seq), byte(seq>>8), byte(seq>>16), byte(seq>>24)
	b[5], b[6] = byte(index), byte(index>>8)
	copy(b[7:55], body)
	h := fnv.New64a()
	h.Write(b[:55])
	for i := range 8 {
		b[55+i] = byte(h.Sum64() >> (8 * i))
	}
	return b
}

// firstSuper is the superblock that stands behind a Format.
func firstSuper(g api.Geom) api.Block {
	return marked(0x53, 1, 0, []byte{
		0x52, 0x56, 0x54, 0x31,
		byte(g.Blocks), 0, byte(g.Sets), byte(g.Ways), byte(g.Area), 0, byte(g.Ring), byte(g.Ring >> 8),
		0, 0, 1, 0, 0, 0,
	})
}

// op is a write to a disk, or its flush.
type op struct {
	dev    int
	flush  bool
	sector int
	b      api.Block
}

// toldFormat is what a Format does, one after the other: the encoding of the first state is 01 and zeros.
func toldFormat(g api.Geom) []op {
	var l []op
	for i := range g.Blocks {
		l = append(l, op{dev: 1, sector: i})
	}
	l = append(l, op{dev: 1, flush: true})
	l = append(l, op{sector: 0}, op{sector: 1}, op{flush: true})
	for i := range g.Ring {
		l = append(l, op{sector: 2 + i})
	}
	for i := range geom.Pages(g) {
		var body []byte
		if i == 0 {
			body = []byte{1}
		}
		l = append(l, op{sector: 2 + g.Ring + i, b: marked(0x48, 0, i, body)})
	}
	return append(l, op{flush: true}, op{sector: 0, b: firstSuper(g)}, op{flush: true})
}

// sectors are what the two disks yield.
type sectors [2][]api.Block

func content(r *rig.Rig) sectors {
	var l sectors
	for dev := range l {
		for i := range r.Len(dev) {
			b, _ := r.Read(dev, i)
			l[dev] = append(l[dev], b)
		}
	}
	return l
}

func (l sectors) copied() sectors {
	return sectors{slices.Clone(l[0]), slices.Clone(l[1])}
}

func same(a, b sectors) bool {
	return slices.Equal(a[0], b[0]) && slices.Equal(a[1], b[1])
}

// after returns the disks after these, and a crash that leaves all that is loose, or none.
func after(l sectors, ops []op, survives bool) sectors {
	durable, last := l.copied(), l.copied()
	for _, o := range ops {
		if o.flush {
			durable[o.dev] = slices.Clone(last[o.dev])
		} else {
			last[o.dev][o.sector] = o.b
		}
	}
	if survives {
		return last
	}
	return durable
}

// whole is what a crash leaves all by that was written once since the last flush.
func whole() []byte { return slices.Repeat([]byte{1}, 4096) }

// crash leaves all that is loose, or none.
func crash(r *rig.Rig, survives bool) {
	if survives {
		r.Crash(whole(), whole())
	} else {
		r.Crash(nil, nil)
	}
}

// junk is what stands in a sector that nobody has written yet.
func junk(dev, i int) api.Block { return marked(0x77, uint32(dev), i, []byte{9, 9, 9}) }

// bare returns a rig with disks that are so much larger than g uses.
func bare(t *testing.T, g api.Geom, more int) *rig.Rig {
	t.Helper()
	r, e := rig.New(geom.Fast(g)+more, geom.Slow(g)+more)
	if e != api.OK {
		t.Fatal(g, e)
	}
	return r
}

// strewn is the same with junk in all sectors, and in the ring what has been a transaction.
func strewn(t *testing.T, g api.Geom, more int) *rig.Rig {
	t.Helper()
	r := bare(t, g, more)
	for dev := range 2 {
		for i := range r.Len(dev) {
			put(t, r, dev, i, junk(dev, i))
		}
	}
	put(t, r, rig.Fast, 2, marked(0x49, 1, 0, []byte{7}))
	put(t, r, rig.Fast, 3, marked(0x43, 1, 1, nil))
	r.Flush(rig.Fast)
	r.Flush(rig.Slow)
	return r
}

// put writes one sector from outside.
func put(t *testing.T, r *rig.Rig, dev, i int, b api.Block) {
	t.Helper()
	if e := r.Write(dev, i, b); e != api.OK {
		t.Fatal(dev, i, e)
	}
}

// formatted returns a rig with more sectors than g uses, and a core that was formatted on it.
func formatted(t *testing.T, g api.Geom) (*rig.Rig, *core.Core) {
	t.Helper()
	r := strewn(t, g, 3)
	c, e := core.Format(r, g)
	if e != api.OK || c == nil {
		t.Fatal(g, c, e)
	}
	return r, c
}

// laid returns a rig that has these bytes as its state.
func laid(t *testing.T, g api.Geom, b []byte) *rig.Rig {
	t.Helper()
	r := strewn(t, g, 3)
	if _, e := meta.Format(r, g, b); e != api.OK {
		t.Fatal(g, e)
	}
	return r
}

// stored returns a rig that has s as its state.
func stored(t *testing.T, g api.Geom, s api.State) *rig.Rig {
	t.Helper()
	return laid(t, g, encoded(t, g, s))
}

// encoded returns the encoding of a state that is valid.
func encoded(t *testing.T, g api.Geom, s api.State) []byte {
	t.Helper()
	b, e := state.Encode(g, s)
	if e != api.OK {
		t.Fatalf("%v: %v", s, e)
	}
	return b
}

// opens opens a core; nothing is written.
func opens(t *testing.T, r *rig.Rig) *core.Core {
	t.Helper()
	before, done := content(r), r.Done()
	c, e := core.Open(r)
	if e != api.OK || c == nil {
		t.Fatal(c, e)
	}
	if r.Done() != done || !same(content(r), before) {
		t.Fatal("Open wrote or flushed")
	}
	return c
}

// opensAs also checks the state that it opens.
func opensAs(t *testing.T, r *rig.Rig, g api.Geom, want api.State) *core.Core {
	t.Helper()
	c := opens(t, r)
	says(t, c, g, want)
	onlyDirty(t, c, want.Dirty)
	return c
}

// says checks what c tells of itself.
func says(t *testing.T, c *core.Core, g api.Geom, want api.State) {
	t.Helper()
	if c.Geom() != g {
		t.Fatal(c.Geom())
	}
	if s := c.State(); !state.Same(s, want) {
		t.Fatalf("%v\nwant %v", s, want)
	}
	if l := c.Map().Dirty(); !slices.Equal(l, want.Dirty) {
		t.Fatal(l, want.Dirty)
	}
}

// onlyDirty checks that the map contains these dirty blocks and no others.
func onlyDirty(t *testing.T, c *core.Core, want []int) {
	t.Helper()
	for slot, b := range want {
		block, dirty, ok := c.Map().Block(slot)
		if block != b || dirty != (b >= 0) || ok != (b >= 0) {
			t.Fatalf("slot %d: %d, %v, %v, want %d", slot, block, dirty, ok, b)
		}
	}
	if _, _, ok := c.Map().Block(len(want)); ok {
		t.Fatal("a slot too many")
	}
}

// noDirty is the Dirty of a state that has none.
func noDirty(g api.Geom) []int { return slices.Repeat([]int{-1}, g.Sets*g.Ways) }

// first is the state behind a Format.
func first(g api.Geom) api.State { return api.State{Dirty: noDirty(g), Next: 1} }

// dirtied returns s with these dirty slots.
func dirtied(s api.State, dirty ...int) api.State {
	s.Dirty = dirty
	return s
}

// fill puts blocks into the map of a core, one for each slot: dirty, and none for -1.
func fill(m *ways.Map, dirty []int) {
	for slot := range dirty {
		m.Drop(slot)
	}
	for slot, block := range dirty {
		m.Put(slot, block, true)
	}
}

// pairs makes pairs of numbers: a Block, its At, the next Block, and so on.
func pairs(l ...int) []api.Pair {
	var out []api.Pair
	for i := 0; i+1 < len(l); i += 2 {
		out = append(out, api.Pair{Block: l[i], At: l[i+1]})
	}
	return out
}

// two are two snapshots, of which each has changed blocks, in the area or not.
func two() []api.Snap {
	return []api.Snap{
		{Id: 3, Changed: []byte{0b00000101}, Table: pairs(0, 3, 2, 1)},
		{Id: 7, Changed: []byte{0b10011000}, Table: pairs(4, 0)},
	}
}

// eight are as many snapshots as there may be.
func eight() []api.Snap {
	var l []api.Snap
	for i := range 8 {
		l = append(l, api.Snap{Id: 10 * (i + 1), Changed: []byte{0}})
	}
	l[7].Changed = []byte{0xff}
	return l
}

// states are valid ones for the shapes with 8 blocks, 2 sets of 2 ways and an area of 4; their Dirty is left out.
func states() []api.State {
	settled := two()
	settled[1] = api.Snap{Id: 7, Changed: []byte{0b00010000}, Table: pairs(4, 0)}
	return []api.State{
		{Next: 1},
		{Next: 2, Snaps: []api.Snap{{Id: 1, Changed: []byte{0}}}},
		{Next: 2, Snaps: []api.Snap{{Id: 1, Changed: []byte{0x81}}}},
		{Next: 8, Snaps: two()},
		{Next: 9, Snaps: two(), Plan: api.Plan{Kind: api.PlanRoll, Id: 3, Pairs: pairs(0, 3, 2, 1, 4, 0)}},
		{Next: 9, Snaps: settled, Plan: api.Plan{Kind: api.PlanImport, Id: 1000000, Pairs: pairs(1, 2, 6, 255, 7, 255)}},
		{Next: 1, Plan: api.Plan{Kind: api.PlanImport, Id: 1, Pairs: pairs(0, 3, 1, 2, 2, 1, 3, 0, 4, 255, 5, 255, 6, 255, 7, 255)}},
		{Next: 1000001, Snaps: eight()},
		{Next: 1000001},
	}
}

// dirties are what the slots of these shapes may contain.
func dirties() [][]int {
	return [][]int{{-1, -1, -1, -1}, {0, -1, -1, -1}, {-1, 6, -1, 7}, {2, 4, 3, 1}, {6, 0, -1, 5}, {4, -1, 7, -1}}
}

// crowded is a state of the largest geometry with as much as there may be in each of its parts.
func crowded() api.State {
	s := api.State{Next: 1000001}
	for i := range 32 {
		s.Dirty = append(s.Dirty, i/4+8*(7-i%4))
	}
	for i := range 8 {
		snap := api.Snap{Id: 999993 + i, Changed: make([]byte, 8)}
		for k := range 25 {
			block := 2*k + i
			snap.Changed[block/8] |= 1 << (block % 8)
			snap.Table = append(snap.Table, api.Pair{Block: block, At: 199 - 25*i - k})
		}
		s.Snaps = append(s.Snaps, snap)
	}
	s.Plan = api.Plan{Kind: api.PlanRoll, Id: 999995}
	for block := range 64 {
		s.Plan.Pairs = append(s.Plan.Pairs, api.Pair{Block: block, At: 3 * block})
	}
	return s
}

// The samples of these tests are what they are said to be.
func TestSamples(t *testing.T) {
	for _, s := range states() {
		for _, l := range dirties() {
			if !state.Good(shape(), dirtied(s, l...)) {
				t.Errorf("%v, %v: not valid", s, l)
			}
		}
	}
	if !state.Good(largest(), crowded()) {
		t.Error("crowded")
	}
	for _, g := range shapes() {
		if !geom.Good(g) {
			t.Errorf("%v: not valid", g)
		}
	}
	for _, g := range strange() {
		if geom.Good(g) {
			t.Errorf("%v: valid", g)
		}
	}
}
