package state

import (
	"revetment/api"
	"revetment/bits"
	"revetment/chain"
)

// maxId is the greatest Id of a snapshot; the least one is 1.
const maxId = 1000000

// goodDirty reports whether each slot has no block, or one that belongs to its set and is in no other slot.
func goodDirty(g api.Geom, dirty []int) bool {
	if len(dirty) != slotCount(g) {
		return false
	}
	seen := bits.New(g.Blocks)
	for slot, block := range dirty {
		if block == none {
			continue
		}
		if !within(block, 0, g.Blocks-1) || block%g.Sets != slot/g.Ways || bits.Has(seen, block) {
			return false
		}
		seen = bits.With(seen, block)
	}
	return true
}

// goodNext reports whether Next is in its range and greater than all Ids.
func goodNext(s api.State) bool {
	for _, snap := range s.Snaps {
		if snap.Id >= s.Next {
			return false
		}
	}
	return within(s.Next, 1, maxId+1)
}

// goodPlan reports whether the plan is one of the three kinds, for a state whose other parts are valid.
func goodPlan(g api.Geom, s api.State) bool {
	p := s.Plan
	switch p.Kind {
	case api.PlanNone:
		return p.Id == 0 && len(p.Pairs) == 0
	case api.PlanRoll:
		return chain.Index(s.Snaps, p.Id) >= 0 && rising(p.Pairs, g.Blocks) && allHeld(p.Pairs, held(g, s.Snaps))
	case api.PlanImport:
		return len(s.Snaps) < api.MaxSnaps && complete(s.Snaps) && within(p.Id, s.Next, maxId) &&
			rising(p.Pairs, g.Blocks) && allApart(g, p.Pairs, held(g, s.Snaps))
	}
	return false
}

// rising reports whether the Blocks are strictly ascending and in the range 0 to blocks - 1.
func rising(l []api.Pair, blocks int) bool {
	least := 0
	for _, p := range l {
		if !within(p.Block, least, blocks-1) {
			return false
		}
		least = p.Block + 1
	}
	return true
}

// complete reports whether each block in Changed of the last snapshot, if there is one, is in its Table. In a valid chain the Table has no others, so that they are when they are as many.
func complete(l []api.Snap) bool {
	if len(l) == 0 {
		return true
	}
	last := l[len(l)-1]
	return bits.Count(last.Changed) == len(last.Table)
}

// held returns the set of the places that occur in a Table.
func held(g api.Geom, l []api.Snap) []byte {
	set := bits.New(g.Area)
	for _, snap := range l {
		for _, p := range snap.Table {
			set = bits.With(set, p.At)
		}
	}
	return set
}

// allHeld reports whether each place of l is in a set.
func allHeld(l []api.Pair, set []byte) bool {
	for _, p := range l {
		if !bits.Has(set, p.At) {
			return false
		}
	}
	return true
}

// allApart reports whether each place of l is Zeros, or one of the area that is not in a set and that no other pair has.
func allApart(g api.Geom, l []api.Pair, set []byte) bool {
	used := set
	for _, p := range l {
		if p.At == api.Zeros {
			continue
		}
		if !within(p.At, 0, g.Area-1) || bits.Has(used, p.At) {
			return false
		}
		used = bits.With(used, p.At)
	}
	return true
}

func within(n, least, most int) bool {
	return n >= least && n <= most
}
