package core_test

import (
	"math/rand"
	"slices"
	"testing"

	"revetment/api"
	"revetment/core"
	"revetment/geom"
	"revetment/meta"
	"revetment/rig"
	"revetment/state"
	"revetment/ways"
)

// The chapter's example.
func TestExample(t *testing.T) {
	_, c := formatted(t, shape())
	if b, e := c.Now(0); b != (api.Block{}) || e != api.OK {
		t.Error(b, e)
	}
}

// P18.1: what Format leaves, on disks that are just as large as g uses, and on larger ones: the area, the slots and what is behind everything stay.
func TestFormat(t *testing.T) {
	for _, g := range shapes() {
		for _, more := range []int{0, 1, 7} {
			r := strewn(t, g, more)
			before, done := content(r), r.Done()
			ops := toldFormat(g)
			c, e := core.Format(r, g)
			if e != api.OK || c == nil {
				t.Fatal(g, more, c, e)
			}
			if r.Done() != done+len(ops) || len(ops) != g.Blocks+1+2+1+g.Ring+geom.Pages(g)+1+1+1 {
				t.Fatalf("%v: %d writes and flushes, want %d", g, r.Done()-done, len(ops))
			}
			crash(r, false) // all that Format wrote is durable
			if !same(content(r), after(before, ops, false)) {
				t.Fatalf("%v: %v", g, content(r))
			}
			says(t, c, g, first(g))
			onlyDirty(t, c, noDirty(g))
			opensAs(t, r, g, first(g))
			for i := range g.Blocks {
				if b, e := c.Now(i); b != (api.Block{}) || e != api.OK {
					t.Fatal(g, i, b, e)
				}
			}
			for i := range g.Area {
				if b, e := c.Area(i); b != junk(rig.Slow, g.Blocks+i) || e != api.OK {
					t.Fatal(g, i, b, e)
				}
			}
		}
	}
}

// P18.1: in which order Format writes and flushes: each of its writes and flushes fails, and a crash leaves all that is loose, or none. What was there is opened as long as it stands.
func TestFormatOrder(t *testing.T) {
	for _, g := range []api.Geom{shape(), smallest(), {Blocks: 9, Sets: 5, Ways: 1, Area: 1, Ring: 5}} {
		old := first(g)
		old.Next = 77
		loose := []op{{dev: 0, sector: geom.Slot(g, 0), b: api.Block{1}}, {dev: 1, sector: geom.Slow(g), b: api.Block{2}}}
		told := append(loose, toldFormat(g)...)
		for fuse := range len(told) - len(loose) + 2 {
			for _, survives := range []bool{false, true} {
				r := stored(t, g, old)
				before := content(r)
				for _, o := range loose {
					put(t, r, o.dev, o.sector, o.b)
				}
				done := r.Done()
				r.Arm(fuse)
				c, e := core.Format(r, g)
				ops := told[:min(len(loose)+fuse, len(told))]
				if whole := len(loose)+fuse >= len(told); whole != (e == api.OK) || whole != (c != nil) || !whole && (e != api.ErrDown || !r.Down()) {
					t.Fatal(g, fuse, c, e)
				}
				if r.Done() != done+len(ops)-len(loose) {
					t.Fatal(g, fuse, r.Done()-done)
				}
				crash(r, survives)
				want := after(before, ops, survives)
				if !same(content(r), want) {
					t.Fatalf("%v, fuse %d, %v: %v\nwant %v", g, fuse, survives, content(r), want)
				}
				switch want[0][0] {
				case firstSuper(g):
					if want[0][geom.Home(g)] == marked(0x48, 0, 0, []byte{1}) {
						opensAs(t, r, g, first(g))
					} else {
						opensAs(t, r, g, old)
					}
				default:
					if c, e := core.Open(r); c != nil || e != api.ErrForm {
						t.Fatal(g, fuse, survives, c, e)
					}
				}
			}
		}
	}
}

// P18.1: the cases in which Format returns ErrArg; nothing is written then, and no fuse burns.
func TestFormatErrors(t *testing.T) {
	size := func(fast, slow int) *rig.Rig {
		r, e := rig.New(fast, slow)
		if e != api.OK {
			t.Fatal(e)
		}
		return r
	}
	hold := func(r *rig.Rig, g api.Geom, want api.Errno) {
		t.Helper()
		down := r.Down()
		c, e := core.Format(r, g)
		if e != want || (c != nil) != (e == api.OK) {
			t.Errorf("%v: %v, %v", g, c, e)
		}
		if e == api.ErrArg && (r.Done() != 0 || r.Down() != down) {
			t.Errorf("%v: it wrote", g)
		}
	}
	for _, g := range shapes() {
		f, s := geom.Fast(g), geom.Slow(g)
		hold(nil, g, api.ErrArg)
		hold(size(f, s), g, api.OK)
		hold(size(f-1, s), g, api.ErrArg)
		hold(size(f-1, s+1), g, api.ErrArg)
		hold(size(f-1, 4096), g, api.ErrArg)
		if s > 1 {
			hold(size(f, s-1), g, api.ErrArg)
			hold(size(f+1, s-1), g, api.ErrArg)
			hold(size(4096, s-1), g, api.ErrArg)
		}
		r := size(f-1, s)
		r.Arm(0)
		hold(r, g, api.ErrArg) // ahead of ErrDown
		r.Flush(rig.Fast)
		hold(r, g, api.ErrArg)
	}
	for _, g := range strange() {
		hold(nil, g, api.ErrArg)
		r := size(4096, 4096)
		hold(r, g, api.ErrArg)
		r.Arm(0)
		hold(r, g, api.ErrArg)
		r.Flush(rig.Slow)
		hold(r, g, api.ErrArg)
		if !r.Down() {
			t.Error("the rig is up")
		}
	}
	r := size(15, 12)
	r.Arm(0)
	r.Flush(rig.Fast)
	hold(r, shape(), api.ErrDown)
}

// P18.1: Format on a rig that has a volume: nothing of it is left.
func TestFormatAgain(t *testing.T) {
	for _, s := range states() {
		for _, l := range dirties() {
			r := stored(t, shape(), dirtied(s, l...))
			opensAs(t, r, shape(), dirtied(s, l...))
			for _, g := range []api.Geom{shape(), ringed(5), smallest()} {
				c, e := core.Format(r, g)
				if e != api.OK {
					t.Fatal(e)
				}
				says(t, c, g, first(g))
				onlyDirty(t, c, noDirty(g))
				crash(r, false)
				opensAs(t, r, g, first(g))
			}
		}
	}
}

// P18.1: what Open returns of rigs on which there is nothing, or not what it should be.
func TestOpenErrors(t *testing.T) {
	hold := func(r *rig.Rig, want api.Errno) {
		t.Helper()
		m, f := meta.Open(r)
		c, e := core.Open(r)
		if c != nil || e != want || f != api.OK && f != e || f == api.OK && m == nil {
			t.Errorf("%v, %v, want %v; meta.Open: %v", c, e, want, f)
		}
	}
	g := shape()
	hold(nil, api.ErrArg)
	hold(bare(t, g, 0), api.ErrForm)
	hold(strewn(t, g, 4), api.ErrForm)
	r, _ := rig.New(1, 12) // there is no second superblock to be read
	hold(r, api.ErrArg)

	for _, g := range shapes() {
		good := encoded(t, g, first(g))
		bad := [][]byte{make([]byte, len(good)), slices.Repeat([]byte{0xff}, len(good))}
		for i := range good {
			b := slices.Clone(good)
			b[i] ^= 0x80 // a snapshot, a plan or a dirty block that is none
			if i > 3 {
				b[i] |= 0x41
			}
			bad = append(bad, b)
		}
		n := 0
		for _, b := range bad {
			if _, e := state.Decode(g, b); e == api.OK {
				continue
			}
			n++
			r := laid(t, g, b)
			hold(r, api.ErrForm)
			r.Arm(0)
			hold(r, api.ErrForm) // reading burns no fuse
			r.Flush(rig.Fast)
			hold(r, api.ErrDown) // that of meta.Open comes first
			r.Crash(nil, nil)
			hold(r, api.ErrForm)
		}
		if n < 10 {
			t.Error(g, n)
		}
	}

	r, c := formatted(t, g)
	put(t, r, rig.Fast, geom.Home(g)+2, api.Block{})
	hold(r, api.ErrForm) // a home page is none
	r, _ = formatted(t, g)
	put(t, r, rig.Fast, 0, api.Block{})
	hold(r, api.ErrForm)
	r.Arm(0)
	r.Flush(rig.Fast)
	hold(r, api.ErrDown)
	says(t, c, g, first(g))
}

// P18.1: Open makes no write and no flush, and needs none.
func TestOpenReads(t *testing.T) {
	s := dirtied(states()[4], 2, 4, 3, 1)
	r := stored(t, shape(), s)
	for fuse := range 3 {
		r.Arm(fuse)
		opensAs(t, r, shape(), s)
		if r.Down() {
			t.Fatal("down")
		}
	}
	r.Arm(0)
	r.Flush(rig.Slow)
	if c, e := core.Open(r); c != nil || e != api.ErrDown {
		t.Error(c, e)
	}
	r.Crash(nil, nil)
	opensAs(t, r, shape(), s)
}

// probed is what a map answers to many calls, which change it.
func probed(m *ways.Map, g api.Geom, seed int64) []int {
	r := rand.New(rand.NewSource(seed))
	slots := g.Sets * g.Ways
	var l []int
	tell := func(n int, ok bool) {
		if l = append(l, n); !ok {
			l = append(l, -9)
		}
	}
	for range 60 {
		switch r.Intn(6) {
		case 0, 1:
			tell(m.Room(r.Intn(g.Blocks)))
		case 2:
			tell(m.Dirtiest(r.Intn(g.Blocks)))
		case 3:
			m.Clean(r.Intn(slots))
		case 4:
			block := r.Intn(g.Blocks)
			if slot, ok := m.Room(block); ok {
				m.Put(slot, block, r.Intn(2) == 0)
			}
		default:
			tell(m.Find(r.Intn(g.Blocks)))
		}
		l = append(l, m.Dirty()...)
	}
	return l
}

// P18.1: the map that Open makes contains the dirty blocks in their slots, and no others; its clocks stand where ways.Put leaves them.
func TestOpenMap(t *testing.T) {
	hold := func(g api.Geom, s api.State) {
		t.Helper()
		r := stored(t, g, s)
		for seed := range int64(8) {
			c := opensAs(t, r, g, s)
			m, _ := ways.New(g.Sets, g.Ways)
			for slot, block := range s.Dirty {
				m.Put(slot, block, true)
				if at, ok := c.Map().Find(block); block >= 0 && (at != slot || !ok) {
					t.Fatalf("%v: block %d in slot %d, %v", s.Dirty, block, at, ok)
				}
			}
			if got, want := probed(c.Map(), g, seed), probed(m, g, seed); !slices.Equal(got, want) {
				t.Fatalf("%v: %v\nwant %v", s.Dirty, got, want)
			}
		}
	}
	for _, s := range states() {
		for _, l := range dirties() {
			hold(shape(), dirtied(s, l...))
		}
	}
	hold(largest(), crowded())
	for slot := range 32 {
		s := crowded()
		s.Dirty[slot] = -1
		hold(largest(), s)
		alone := first(largest())
		alone.Dirty[slot] = crowded().Dirty[slot]
		hold(largest(), alone)
	}
	hold(smallest(), api.State{Dirty: []int{0}, Next: 5})
}

// P18.1: what was clean in the map is not in it when it is opened again, nor what was not committed.
func TestOpenForgets(t *testing.T) {
	r, c := formatted(t, shape())
	c.Map().Put(0, 2, true)
	c.Map().Put(1, 4, false)
	c.Map().Put(3, 5, true)
	if e := c.Commit(c.State()); e != api.OK {
		t.Fatal(e)
	}
	c.Map().Put(2, 7, true)
	c.Map().Drop(0)
	d := opensAs(t, r, shape(), api.State{Dirty: []int{2, -1, -1, 5}, Next: 1})
	if _, ok := d.Map().Find(4); ok {
		t.Error("a clean block")
	}
	says(t, c, shape(), api.State{Dirty: []int{-1, -1, 7, 5}, Next: 1}) // another core on this rig has a map of its own
}

// P18.1: Dirty of the state is that of the map, whatever is put into it.
func TestDirtyIsTheMaps(t *testing.T) {
	for _, s := range states() {
		r := stored(t, shape(), dirtied(s, -1, 6, -1, 7))
		done := r.Done()
		c := opens(t, r)
		m := c.Map()
		for i, x := range []struct {
			do   func()
			want []int
		}{
			{func() {}, []int{-1, 6, -1, 7}},
			{func() { m.Put(0, 2, true) }, []int{2, 6, -1, 7}},
			{func() { m.Put(2, 5, false) }, []int{2, 6, -1, 7}},
			{func() { m.Put(2, 5, true) }, []int{2, 6, 5, 7}},
			{func() { m.Clean(1) }, []int{2, -1, 5, 7}},
			{func() { m.Drop(3) }, []int{2, -1, 5, -1}},
			{func() { m.Touch(0) }, []int{2, -1, 5, -1}},
			{func() { m.Put(1, 8, true) }, []int{2, 8, 5, -1}}, // no block of the volume: the map does not know
			{func() { m.Room(8) }, []int{2, 8, 5, -1}},
			{func() { m.Drop(0); m.Drop(1); m.Clean(2) }, []int{-1, -1, -1, -1}},
		} {
			x.do()
			want := dirtied(s, x.want...)
			if got := c.State(); !state.Same(got, want) || c.Map() != m {
				t.Fatalf("%d: %v\nwant %v", i, got, want)
			}
		}
		if r.Done() != done {
			t.Error("it wrote")
		}
		opensAs(t, r, shape(), dirtied(s, -1, 6, -1, 7))
	}
}

// P18.1: Map returns the same map each time, behind each other call too; those of two cores are two.
func TestMapItself(t *testing.T) {
	r, c := formatted(t, shape())
	m := c.Map()
	if m == nil || c.Map() != m || opens(t, r).Map() == m {
		t.Error("two maps")
	}
	for _, s := range states() {
		if e := c.Commit(s); e != api.OK {
			t.Fatal(e)
		}
		c.Commit(api.State{})
		c.Mark(2)
		c.Now(2)
		c.PutSlot(2, api.Block{1})
		c.Flush(rig.Slow)
		c.State()
		if c.Map() != m {
			t.Fatal("another map")
		}
	}
	r.Arm(0)
	if e := c.Commit(states()[0]); e != api.ErrDown || c.Map() != m || c.Geom() != shape() {
		t.Error(e)
	}
}

// P18.1: a nil core.
func TestNil(t *testing.T) {
	var c *core.Core
	if c.Geom() != (api.Geom{}) || c.Map() != nil || !state.Same(c.State(), api.State{}) {
		t.Error(c.Geom(), c.Map(), c.State())
	}
	for _, i := range append(beside(8), 0, 1, 7) {
		c.Mark(i)
		for k, get := range []func(int) (api.Block, api.Errno){c.Now, c.Slot, c.Slow, c.Area} {
			if b, e := get(i); b != (api.Block{}) || e != api.ErrArg {
				t.Error(k, i, b, e)
			}
		}
		for k, put := range []func(int, api.Block) api.Errno{c.PutSlot, c.PutSlow, c.PutArea} {
			if e := put(i, api.Block{1}); e != api.ErrArg {
				t.Error(k, i, e)
			}
		}
		if e := c.Flush(i); e != api.ErrArg {
			t.Error(i, e)
		}
	}
	for _, s := range append(states(), api.State{}, crowded(), first(shape())) {
		if e := c.Commit(s); e != api.ErrArg {
			t.Error(s, e)
		}
	}
}
