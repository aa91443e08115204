package ways

import (
	"fmt"
	"math/rand"
	"slices"
	"testing"

	"revetment/api"
)

// made returns a new map.
func made(t *testing.T, sets, ways int) *Map {
	t.Helper()
	m, e := New(sets, ways)
	if e != api.OK || m == nil {
		t.Fatalf("New(%d, %d) = %v, %v", sets, ways, m, e)
	}
	return m
}

// agree takes a step on a map and by the document's words, and holds what is returned and what is seen then.
func agree(t *testing.T, m *Map, o *told, s step) {
	t.Helper()
	slots := o.Sets * o.Ways
	before := seen(m, slots)
	a, want := do(m, s), do(o, s)
	after := seen(m, slots)
	if a != want || !slices.Equal(after, seen(o, slots)) {
		t.Fatalf("%v on %v: %v, want %v; %v, want %v", s, before, a, want, after, seen(o, slots))
	}
	for b := range 2 * slots {
		if x, y := do(m, step{kind: find, block: b}), do(o, step{kind: find, block: b}); x != y {
			t.Fatalf("%v on %v: Find(%d) = %v, want %v", s, before, b, x, y)
		}
	}
	holds(t, m, o.Sets, o.Ways)
	makesRoomOfClean(t, s, a, before, after)
}

// holds holds P13.3 and what a map is: each block is in one slot, of its own set.
func holds(t *testing.T, m *Map, sets, ways int) {
	t.Helper()
	in := map[int]int{}
	for slot := range sets * ways {
		b, dirty, ok := m.Block(slot)
		if !ok {
			continue
		}
		if other, twice := in[b]; twice || b < 0 || b%sets != slot/ways {
			t.Fatalf("block %d in slot %d (and %d: %v)", b, slot, other, twice)
		}
		in[b] = slot
		if i, ok := m.Find(b); i != slot || !ok || (m.Dirty()[slot] == b) != dirty {
			t.Fatalf("block %d in slot %d: found %d, %v; dirty %v", b, slot, i, ok, m.Dirty())
		}
	}
}

// makesRoomOfClean holds P13.3: Room leaves a slot empty that was not dirty, and leaves the others; Find, Block and Dirtiest leave all of them.
func makesRoomOfClean(t *testing.T, s step, a answer, before, after []answer) {
	t.Helper()
	for i, was := range before {
		chosen := s.kind == room && a.ok && i == a.n+2 // seen begins with slot -2
		if chosen && (was.dirty || after[i].ok) {
			t.Fatalf("Room(%d) = %d: %v, then %v", s.block, a.n, was, after[i])
		}
		if !chosen && (s.kind == room || s.kind == dirtiest || s.kind == find || s.kind == block) && after[i] != was {
			t.Fatalf("%v at %d: %v, then %v", s, i-2, was, after[i])
		}
	}
}

// explore reaches every state that a map of this size can have with these blocks, takes every step in each of them, and returns how many there are.
func explore(t *testing.T, sets, ways int, blocks []int) int {
	t.Helper()
	var slots []int
	for slot := range sets*ways + 2 {
		slots = append(slots, slot-1)
	}
	all := steps(slots, append(blocks, -1))
	found := map[string]bool{}
	paths := [][]step{nil}
	for len(paths) > 0 {
		path := paths[0]
		paths = paths[1:]
		for _, s := range all {
			m, o := made(t, sets, ways), newTold(sets, ways)
			for _, p := range path {
				do(m, p)
				do(o, p)
			}
			agree(t, m, o, s)
			// Both states together: where only one of them differs from what was found, it is gone into as well.
			if key := fmt.Sprint(*m, *o); !found[key] {
				found[key] = true
				paths = append(paths, append(slices.Clone(path), s))
			}
		}
	}
	return len(found)
}

// P13.1, P13.2, P13.3: every step in every state of small maps, held against the document's words.
func TestEverySmallMap(t *testing.T) {
	for _, x := range []struct {
		sets, ways int
		blocks     []int
		atLeast    int
	}{
		{1, 1, []int{0, 1, 7}, 7},
		{1, 2, []int{0, 1, 2}, 100},
		{1, 3, []int{0, 1, 2, 3}, 2000},
		{1, 4, []int{5, 6, 7}, 1400},
		{2, 1, []int{0, 1, 2, 3}, 25},
		{2, 2, []int{0, 2, 5}, 400},
		{3, 1, []int{1, 2, 3, 4, 6}, 75},
	} {
		if n := explore(t, x.sets, x.ways, x.blocks); n < x.atLeast {
			t.Errorf("%d sets of %d: only %d states", x.sets, x.ways, n)
		}
	}
}

// random makes a step, most of them with slots and blocks that a map of this size has. More than half of them put a block, so that most sets are full when room is made.
func random(r *rand.Rand, sets, ways int) step {
	s := step{kind: r.Intn(kinds), slot: r.Intn(sets * ways), block: r.Intn(2 * sets * ways), dirty: r.Intn(2) == 0}
	if r.Intn(5) > 1 {
		s.kind = put
	}
	if r.Intn(3) > 0 {
		s.block = s.slot/ways + sets*r.Intn(ways+2) // of the slot's set
	}
	if r.Intn(20) == 0 {
		s.slot = append(far(), -1, sets*ways, sets*ways+1)[r.Intn(len(far())+3)]
	}
	if r.Intn(20) == 0 {
		s.block = append(far(), -1, -sets)[r.Intn(len(far())+2)]
	}
	return s
}

// P13.1, P13.2, P13.3: long walks on maps of every size, held against the document's words.
func TestLongWalks(t *testing.T) {
	r := rand.New(rand.NewSource(13))
	for _, x := range sizes() {
		m, o := made(t, x[0], x[1]), newTold(x[0], x[1])
		for range 3000 {
			agree(t, m, o, random(r, x[0], x[1]))
		}
	}
}

// P13.2, P13.3: a cache's own use: each write finds a slot, makes room, or cleans a dirty one and then makes room, which succeeds.
func TestUsedAsACache(t *testing.T) {
	r := rand.New(rand.NewSource(14))
	for _, x := range sizes() {
		m, o := made(t, x[0], x[1]), newTold(x[0], x[1])
		both := func(s step) answer {
			t.Helper()
			a := do(m, s)
			if want := do(o, s); a != want {
				t.Fatalf("%v of %v: %v, want %v", s, x, a, want)
			}
			return a
		}
		for range 1000 {
			b := r.Intn(3 * x[0] * x[1])
			slot := both(step{kind: find, block: b})
			if slot.ok {
				both(step{kind: touch, slot: slot.n})
			} else {
				slot = both(step{kind: room, block: b})
			}
			if !slot.ok {
				dirty := both(step{kind: dirtiest, block: b})
				both(step{kind: clean, slot: dirty.n})
				if slot = both(step{kind: room, block: b}); !dirty.ok || !slot.ok || slot != dirty {
					t.Fatalf("no room behind %v: %v", dirty, slot)
				}
			}
			both(step{kind: put, slot: slot.n, block: b, dirty: r.Intn(3) > 0})
			holds(t, m, x[0], x[1])
		}
	}
}
