package ways

import (
	"math"
	"slices"

	"revetment/api"
)

// far are numbers at the ends of the type, and where fewer bits end.
func far() []int {
	return []int{math.MinInt, math.MinInt + 1, -1 << 32, -1 << 31, -256, 1 << 31, 1<<32 - 1, 1 << 32, 1<<32 + 1, math.MaxInt - 1, math.MaxInt}
}

// mapped is what a map can be asked and told.
type mapped interface {
	Find(block int) (int, bool)
	Room(block int) (int, bool)
	Dirtiest(block int) (int, bool)
	Put(slot, block int, dirty bool)
	Clean(slot int)
	Drop(slot int)
	Touch(slot int)
	Block(slot int) (block int, dirty, ok bool)
	Dirty() []int
}

// told follows the document's words, with a record for each thing that they name.
type told struct {
	Sets, Ways int
	Contains   []int // -1: empty
	IsDirty    []bool
	IsMarked   []bool
	Hand       []int
}

func newTold(sets, ways int) *told {
	n := sets * ways
	return &told{Sets: sets, Ways: ways, Contains: slices.Repeat([]int{-1}, n), IsDirty: make([]bool, n), IsMarked: make([]bool, n), Hand: make([]int, sets)}
}

func (o *told) there(slot int) bool {
	return slot >= 0 && slot < o.Sets*o.Ways
}

func (o *told) Find(block int) (int, bool) {
	if i := slices.Index(o.Contains, block); block >= 0 && i >= 0 {
		return i, true
	}
	return 0, false
}

func (o *told) Room(block int) (int, bool) {
	if block < 0 {
		return 0, false
	}
	set := block % o.Sets
	for way := 0; way < o.Ways; way++ {
		if o.Contains[set*o.Ways+way] == -1 {
			return set*o.Ways + way, true
		}
	}
	for times := 0; times < 2*o.Ways; times++ {
		considered := set*o.Ways + o.Hand[set]
		o.Hand[set]++
		if o.Hand[set] == o.Ways {
			o.Hand[set] = 0
		}
		if !o.IsDirty[considered] && o.IsMarked[considered] {
			o.IsMarked[considered] = false
		} else if !o.IsDirty[considered] {
			o.Drop(considered)
			return considered, true
		}
	}
	return 0, false
}

func (o *told) Dirtiest(block int) (int, bool) {
	if block < 0 {
		return 0, false
	}
	set := block % o.Sets
	for k := 0; k < o.Ways; k++ {
		way := (o.Hand[set] + k) % o.Ways
		if o.IsDirty[set*o.Ways+way] {
			o.Hand[set] = (way + 1) % o.Ways
			return set*o.Ways + way, true
		}
	}
	return 0, false
}

func (o *told) Put(slot, block int, dirty bool) {
	is := slices.Index(o.Contains, block)
	if !o.there(slot) || block < 0 || block%o.Sets != slot/o.Ways || is >= 0 && is != slot {
		return
	}
	o.Contains[slot], o.IsDirty[slot], o.IsMarked[slot] = block, dirty, true
}

func (o *told) Clean(slot int) {
	if o.there(slot) {
		o.IsDirty[slot] = false
	}
}

func (o *told) Drop(slot int) {
	if o.there(slot) {
		o.Contains[slot], o.IsDirty[slot], o.IsMarked[slot] = -1, false, false
	}
}

func (o *told) Touch(slot int) {
	if o.there(slot) && o.Contains[slot] != -1 {
		o.IsMarked[slot] = true
	}
}

func (o *told) Block(slot int) (block int, dirty, ok bool) {
	if !o.there(slot) || o.Contains[slot] == -1 {
		return -1, false, false
	}
	return o.Contains[slot], o.IsDirty[slot], true
}

func (o *told) Dirty() []int {
	out := slices.Clone(o.Contains)
	for i, dirty := range o.IsDirty {
		if !dirty {
			out[i] = -1
		}
	}
	return out
}

// The names of the steps.
const (
	room = iota
	dirtiest
	put
	clean
	drop
	touch
	find
	block
	kinds
)

// step is a call.
type step struct {
	kind, slot, block int
	dirty             bool
}

// answer is what a call returns.
type answer struct {
	n     int
	dirty bool
	ok    bool
}

// do takes a step.
func do(m mapped, s step) (a answer) {
	switch s.kind {
	case room:
		a.n, a.ok = m.Room(s.block)
	case dirtiest:
		a.n, a.ok = m.Dirtiest(s.block)
	case put:
		m.Put(s.slot, s.block, s.dirty)
	case clean:
		m.Clean(s.slot)
	case drop:
		m.Drop(s.slot)
	case touch:
		m.Touch(s.slot)
	case find:
		a.n, a.ok = m.Find(s.block)
	case block:
		a.n, a.dirty, a.ok = m.Block(s.slot)
	}
	return a
}

// steps are all steps with these slots and blocks.
func steps(slots, blocks []int) []step {
	var out []step
	for _, slot := range slots {
		for _, b := range blocks {
			out = append(out, step{kind: put, slot: slot, block: b}, step{kind: put, slot: slot, block: b, dirty: true})
		}
		for _, kind := range []int{clean, drop, touch, block} {
			out = append(out, step{kind: kind, slot: slot})
		}
	}
	for _, b := range blocks {
		for _, kind := range []int{room, dirtiest, find} {
			out = append(out, step{kind: kind, block: b})
		}
	}
	return out
}

// seen is what can be seen of a map without a change: what is in its slots, and in those around them.
func seen(m mapped, slots int) []answer {
	var out []answer
	for slot := -2; slot < slots+2; slot++ {
		out = append(out, do(m, step{kind: block, slot: slot}))
	}
	for _, b := range m.Dirty() {
		out = append(out, answer{n: b})
	}
	return out
}

// sizes are all sets and ways of which New makes a map.
func sizes() [][2]int {
	var out [][2]int
	for sets := 1; sets <= api.MaxSets; sets++ {
		for ways := 1; ways <= api.MaxWays; ways++ {
			out = append(out, [2]int{sets, ways})
		}
	}
	return out
}
