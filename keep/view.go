package keep

import (
	"iter"
	"slices"

	"revetment/api"
	"revetment/bits"
	"revetment/core"
	"revetment/table"
)

// view is what tells where blocks are held, as it is at one moment.
type view struct {
	geom  api.Geom
	state api.State
}

// viewOf returns the view of a core. That of a nil core has neither blocks nor snapshots, so that nothing is held.
func viewOf(c *core.Core) view {
	return view{geom: c.Geom(), state: c.State()}
}

// slot returns the slot in which block is held and true, or false if it is held in none.
func (v view) slot(block int) (int, bool) {
	changed, ok := v.uncopied(block)
	slot := slices.Index(v.state.Dirty, block)
	if !ok || changed || slot < 0 {
		return 0, false
	}
	return slot, true
}

// onSlow reports whether block is held on the slow disk.
func (v view) onSlow(block int) bool {
	changed, ok := v.uncopied(block)
	return ok && changed
}

// uncopied returns whether block has changed since the latest snapshot, and true; or false if there is no such block, no snapshot, or a copy of the block in the area.
func (v view) uncopied(block int) (changed, ok bool) {
	n := len(v.state.Snaps)
	if n == 0 || block < 0 || block >= v.geom.Blocks {
		return false, false
	}
	latest := v.state.Snaps[n-1]
	if _, found := table.Find(latest.Table, block); found {
		return false, false
	}
	return bits.Has(latest.Changed, block), true
}

// heldOnSlow visits the blocks that are held on the slow disk, ascending.
func (v view) heldOnSlow() iter.Seq[int] {
	return func(yield func(int) bool) {
		for block := range v.geom.Blocks {
			if v.onSlow(block) && !yield(block) {
				return
			}
		}
	}
}

// copyable reports whether each of the blocks is held, and none occurs twice. It ends with the first one that is wrong: of a long list it sees no more than the volume has blocks.
func (v view) copyable(blocks []int) bool {
	seen := bits.New(v.geom.Blocks)
	for _, block := range blocks {
		_, inSlot := v.slot(block)
		if !inSlot && !v.onSlow(block) || bits.Has(seen, block) {
			return false
		}
		seen = bits.With(seen, block)
	}
	return true
}

// copyTo writes what the latest snapshot has of block, which is held, to a place of the area.
func (v view) copyTo(c *core.Core, block, at int) api.Errno {
	b, e := v.read(c, block)
	if e != api.OK {
		return e
	}
	return c.PutArea(at, b)
}

// read returns what the latest snapshot has of block, which is held.
func (v view) read(c *core.Core, block int) (api.Block, api.Errno) {
	if slot, ok := v.slot(block); ok {
		return c.Slot(slot)
	}
	return c.Slow(block)
}

// with returns the state in which the latest snapshot, which there is, has copies at these places.
func (v view) with(copies iter.Seq2[int, int]) api.State {
	s := v.state
	s.Snaps = slices.Clone(s.Snaps)
	latest := &s.Snaps[len(s.Snaps)-1]
	for block, at := range copies {
		latest.Table = table.Put(latest.Table, block, at)
		latest.Changed = bits.With(latest.Changed, block)
	}
	return s
}
