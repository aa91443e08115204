package state

import (
	"math"
	"math/rand"
	"slices"

	"revetment/api"
	"revetment/chain"
	"revetment/geom"
)

// far are numbers at the ends of the type, and where fewer bits end.
func far() []int {
	return []int{math.MinInt, math.MinInt + 1, -1 << 32, -1 << 31, -1000000, -256, 1 << 20, 1 << 31, 1<<32 - 1, 1 << 32, 1<<32 + 1, math.MaxInt - 1, math.MaxInt}
}

// sized makes the geometry with these sizes and the smallest ring.
func sized(blocks, sets, ways, area int) api.Geom {
	g := api.Geom{Blocks: blocks, Sets: sets, Ways: ways, Area: area}
	for !geom.Good(g) && g.Ring < api.MaxRing {
		g.Ring++
	}
	return g
}

func smallest() api.Geom { return sized(1, 1, 1, 0) }

func largest() api.Geom { return api.Geom{Blocks: 64, Sets: 8, Ways: 4, Area: 200, Ring: 256} }

// geometries are valid ones: the smallest and the largest one, and some whose sets have one block more than others, more slots than blocks, or none.
func geometries() []api.Geom {
	return []api.Geom{smallest(), largest(), shape(), sized(1, 1, 1, 1), sized(1, 8, 4, 200), sized(64, 1, 1, 0), sized(8, 1, 4, 8), sized(16, 5, 2, 199), sized(17, 2, 4, 30), sized(63, 7, 3, 50)}
}

// strange are geometries that are not valid: each is a valid one with one size too small or too large.
func strange() []api.Geom {
	out := []api.Geom{{}}
	for _, g := range geometries() {
		for _, n := range append(far(), -1) {
			for _, edit := range []func(g *api.Geom){
				func(g *api.Geom) { g.Blocks = n }, func(g *api.Geom) { g.Sets = n }, func(g *api.Geom) { g.Ways = n }, func(g *api.Geom) { g.Area = n }, func(g *api.Geom) { g.Ring = n },
			} {
				bad := g
				edit(&bad)
				out = append(out, bad)
			}
		}
		for _, edit := range []func(g *api.Geom){
			func(g *api.Geom) { g.Blocks = 0 }, func(g *api.Geom) { g.Blocks = 65 }, func(g *api.Geom) { g.Sets = 0 }, func(g *api.Geom) { g.Sets = 9 }, func(g *api.Geom) { g.Ways = 0 }, func(g *api.Geom) { g.Ways = 5 },
			func(g *api.Geom) { g.Area = 201 }, func(g *api.Geom) { g.Ring = geom.Pages(*g) + 1 }, func(g *api.Geom) { g.Ring = 257 },
		} {
			bad := g
			edit(&bad)
			out = append(out, bad)
		}
	}
	return out
}

// pairs makes pairs of numbers: a Block, its At, the next Block, and so on.
func pairs(l ...int) []api.Pair {
	var out []api.Pair
	for i := 0; i+1 < len(l); i += 2 {
		out = append(out, api.Pair{Block: l[i], At: l[i+1]})
	}
	return out
}

// anew returns s in memory of its own, where no two slices share any.
func anew(s api.State) api.State {
	s.Dirty = slices.Concat(s.Dirty)
	s.Plan.Pairs = slices.Concat(s.Plan.Pairs)
	snaps := slices.Concat(s.Snaps)
	for i, snap := range snaps {
		snaps[i].Changed, snaps[i].Table = slices.Concat(snap.Changed), slices.Concat(snap.Table)
	}
	s.Snaps = snaps
	return s
}

// equal reports whether two states are equal in everything, number by number.
func equal(a, b api.State) bool {
	if a.Next != b.Next || a.Plan.Kind != b.Plan.Kind || a.Plan.Id != b.Plan.Id || len(a.Dirty) != len(b.Dirty) || len(a.Snaps) != len(b.Snaps) || !equalPairs(a.Plan.Pairs, b.Plan.Pairs) {
		return false
	}
	for i := range a.Dirty {
		if a.Dirty[i] != b.Dirty[i] {
			return false
		}
	}
	for i := range a.Snaps {
		x, y := a.Snaps[i], b.Snaps[i]
		if x.Id != y.Id || string(x.Changed) != string(y.Changed) || !equalPairs(x.Table, y.Table) {
			return false
		}
	}
	return true
}

func equalPairs(a, b []api.Pair) bool {
	if len(a) != len(b) {
		return false
	}
	for i := range a {
		if a[i].Block != b[i].Block || a[i].At != b[i].At {
			return false
		}
	}
	return true
}

// zero reports whether nothing is in s.
func zero(s api.State) bool {
	return equal(s, api.State{})
}

// toldGood follows the document's words, one after the other.
func toldGood(g api.Geom, s api.State) bool {
	if !geom.Good(g) || !toldDirty(g, s.Dirty) || !chain.Good(s.Snaps, g.Blocks, g.Area) || s.Next < 1 || s.Next > 1000001 {
		return false
	}
	for _, snap := range s.Snaps {
		if s.Next <= snap.Id {
			return false
		}
	}
	switch s.Plan.Kind {
	case 0:
		return s.Plan.Id == 0 && len(s.Plan.Pairs) == 0
	case 1:
		return toldRoll(g, s)
	case 2:
		return toldImport(g, s)
	default:
		return false
	}
}

func toldDirty(g api.Geom, dirty []int) bool {
	if len(dirty) != g.Sets*g.Ways {
		return false
	}
	for i, block := range dirty {
		if block == -1 {
			continue
		}
		if block < 0 || block >= g.Blocks || block%g.Sets != i/g.Ways {
			return false
		}
		for _, other := range dirty[i+1:] {
			if other == block {
				return false
			}
		}
	}
	return true
}

// times returns how often an At occurs in all Tables.
func times(l []api.Snap, at int) int {
	n := 0
	for _, s := range l {
		for _, p := range s.Table {
			if p.At == at {
				n++
			}
		}
	}
	return n
}

// toldBlocks looks at each of the Blocks, and at each two of them.
func toldBlocks(g api.Geom, l []api.Pair) bool {
	for i, p := range l {
		if p.Block < 0 || p.Block >= g.Blocks {
			return false
		}
		for _, later := range l[i+1:] {
			if later.Block <= p.Block {
				return false
			}
		}
	}
	return true
}

func toldRoll(g api.Geom, s api.State) bool {
	there := false
	for _, snap := range s.Snaps {
		there = there || snap.Id == s.Plan.Id
	}
	for _, p := range s.Plan.Pairs {
		if times(s.Snaps, p.At) == 0 {
			return false
		}
	}
	return there && toldBlocks(g, s.Plan.Pairs)
}

func toldImport(g api.Geom, s api.State) bool {
	if len(s.Snaps) >= 8 || s.Plan.Id < s.Next || s.Plan.Id > 1000000 || !toldBlocks(g, s.Plan.Pairs) {
		return false
	}
	if n := len(s.Snaps); n > 0 {
		for block := range g.Blocks {
			last := s.Snaps[n-1]
			if last.Changed[block/8]>>(block%8)%2 == 1 && !slices.ContainsFunc(last.Table, func(p api.Pair) bool { return p.Block == block }) {
				return false
			}
		}
	}
	for i, p := range s.Plan.Pairs {
		if p.At == 255 {
			continue
		}
		if p.At < 0 || p.At >= g.Area || times(s.Snaps, p.At) > 0 {
			return false
		}
		for k, q := range s.Plan.Pairs {
			if k != i && q.At == p.At {
				return false
			}
		}
	}
	return true
}

// layout is where the parts of an encoding begin.
type layout struct{ dirty, snaps, each, pairs, end int }

func laid(g api.Geom) layout {
	o := layout{dirty: 10, snaps: 10 + g.Sets*g.Ways, each: 4 + g.Blocks/8 + g.Blocks}
	if g.Blocks%8 > 0 {
		o.each++
	}
	o.pairs = o.snaps + 8*o.each
	o.end = o.pairs + g.Blocks
	return o
}

func put(b []byte, n int) {
	for i := range b {
		b[i] = byte(n >> (8 * i))
	}
}

func get(b []byte) int {
	n := 0
	for i, x := range b {
		n += int(x) << (8 * i)
	}
	return n
}

// toldBytes sets each byte in its place, for a valid state.
func toldBytes(g api.Geom, s api.State) []byte {
	o := laid(g)
	b := make([]byte, o.end)
	put(b[0:4], s.Next)
	b[4], b[5] = byte(len(s.Snaps)), byte(s.Plan.Kind)
	put(b[6:10], s.Plan.Id)
	for i, block := range s.Dirty {
		b[o.dirty+i] = byte(block + 1)
	}
	for i, snap := range s.Snaps {
		own := b[o.snaps+i*o.each:][:o.each]
		put(own[:4], snap.Id)
		copy(own[4:], snap.Changed)
		for _, p := range snap.Table {
			own[o.each-g.Blocks+p.Block] = byte(p.At + 1)
		}
	}
	for _, p := range s.Plan.Pairs {
		b[o.pairs+p.Block] = byte(p.At + 1)
		if p.At == 255 {
			b[o.pairs+p.Block] = 255
		}
	}
	return b
}

// toldState finds the valid state whose encoding is b, if there is one.
func toldState(g api.Geom, b []byte) (api.State, bool) {
	o := laid(g)
	if len(b) != o.end || b[4] > 8 {
		return api.State{}, false
	}
	s := api.State{Next: get(b[0:4]), Plan: api.Plan{Kind: int(b[5]), Id: get(b[6:10])}}
	for _, x := range b[o.dirty:o.snaps] {
		s.Dirty = append(s.Dirty, int(x)-1)
	}
	for i := range int(b[4]) {
		own := b[o.snaps+i*o.each:][:o.each]
		snap := api.Snap{Id: get(own[:4]), Changed: slices.Concat(own[4 : o.each-g.Blocks])}
		for block, x := range own[o.each-g.Blocks:] {
			if x > 0 {
				snap.Table = append(snap.Table, api.Pair{Block: block, At: int(x) - 1})
			}
		}
		s.Snaps = append(s.Snaps, snap)
	}
	for block, x := range b[o.pairs:] {
		if x == 255 {
			s.Plan.Pairs = append(s.Plan.Pairs, api.Pair{Block: block, At: 255})
		} else if x > 0 {
			s.Plan.Pairs = append(s.Plan.Pairs, api.Pair{Block: block, At: int(x) - 1})
		}
	}
	if !toldGood(g, s) || !slices.Equal(toldBytes(g, s), b) {
		return api.State{}, false
	}
	return s, true
}

// drawn makes a valid state by luck: with so many snapshots, as far as the kind of the plan allows it.
func drawn(r *rand.Rand, g api.Geom, snaps, kind int) api.State {
	if kind == api.PlanRoll {
		snaps = max(snaps, 1)
	}
	if kind == api.PlanImport {
		snaps = min(snaps, 7)
	}
	free := r.Perm(g.Area)
	s := api.State{Dirty: drawnDirty(r, g)}
	id := 0
	for i := range snaps {
		id += 1 + r.Intn(1+r.Intn(1000000/9))
		open := i == snaps-1 && kind != api.PlanImport
		var snap api.Snap
		snap, free = drawnSnap(r, g, open, free)
		snap.Id = id
		s.Snaps = append(s.Snaps, snap)
	}
	s.Next = id + 1 + r.Intn(1+r.Intn(1000000-id))
	if kind == api.PlanNone && r.Intn(4) == 0 {
		s.Next = 1000001
	}
	s.Plan = drawnPlan(r, g, s, kind, free)
	return s
}

func drawnDirty(r *rand.Rand, g api.Geom) []int {
	often := r.Intn(5)
	var dirty []int
	for i := range g.Sets * g.Ways {
		dirty = append(dirty, -1)
		block := i/g.Ways + g.Sets*r.Intn(1+g.Blocks/g.Sets)
		if block < g.Blocks && !slices.Contains(dirty, block) && r.Intn(4) < often {
			dirty[i] = block
		}
	}
	return dirty
}

// drawnSnap makes a snapshot that takes from the free places, and returns those that are left. If it is open, not all that changed has a place.
func drawnSnap(r *rand.Rand, g api.Geom, open bool, free []int) (api.Snap, []int) {
	snap := api.Snap{Changed: make([]byte, (g.Blocks+7)/8)}
	often := r.Intn(4)
	for block := range g.Blocks {
		changed := r.Intn(4) < often
		held := changed && len(free) > 0 && (!open || r.Intn(2) == 0)
		if held {
			snap.Table = append(snap.Table, api.Pair{Block: block, At: free[0]})
			free = free[1:]
		}
		if held || changed && open {
			snap.Changed[block/8] |= 1 << (block % 8)
		}
	}
	return snap, free
}

func drawnPlan(r *rand.Rand, g api.Geom, s api.State, kind int, free []int) api.Plan {
	p := api.Plan{Kind: kind}
	var taken []int
	for _, snap := range s.Snaps {
		for _, q := range snap.Table {
			taken = append(taken, q.At)
		}
	}
	if kind == api.PlanRoll {
		p.Id = s.Snaps[r.Intn(len(s.Snaps))].Id
	}
	if kind == api.PlanImport {
		p.Id = s.Next + r.Intn(1000001-s.Next)
	}
	often := r.Intn(5)
	for block := range g.Blocks {
		switch {
		case kind == api.PlanNone || r.Intn(4) >= often:
		case kind == api.PlanRoll && len(taken) > 0:
			p.Pairs = append(p.Pairs, api.Pair{Block: block, At: taken[r.Intn(len(taken))]})
		case kind == api.PlanImport && len(free) > 0 && r.Intn(3) > 0:
			p.Pairs = append(p.Pairs, api.Pair{Block: block, At: free[0]})
			free = free[1:]
		case kind == api.PlanImport:
			p.Pairs = append(p.Pairs, api.Pair{Block: block, At: api.Zeros})
		}
	}
	return p
}

// sample is a state, and the geometry for which it is valid.
type sample struct {
	g api.Geom
	s api.State
}

// samples are valid states: of each geometry, with each number of snapshots and each kind of plan.
func samples() []sample {
	r := rand.New(rand.NewSource(14))
	out := []sample{{shape(), full()}, {shape(), rolling()}}
	for _, g := range geometries() {
		for n := range 9 {
			for kind := range 3 {
				out = append(out, sample{g, drawn(r, g, n, kind)})
			}
		}
	}
	return out
}
