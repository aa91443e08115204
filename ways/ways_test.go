package ways

import (
	"math"
	"math/rand"
	"slices"
	"strconv"
	"strings"
	"testing"

	"revetment/api"
)

// text shows what is in the slots: a block, with a d if it is dirty, or - for none.
func text(m *Map, slots int) string {
	var out []string
	for slot := range slots {
		b, dirty, ok := m.Block(slot)
		switch {
		case !ok:
			out = append(out, "-")
		case dirty:
			out = append(out, strconv.Itoa(b)+"d")
		default:
			out = append(out, strconv.Itoa(b))
		}
	}
	return strings.Join(out, " ")
}

// fill puts the blocks of such a text into the slots; each is marked then.
func fill(m *Map, blocks string) {
	for slot, s := range strings.Fields(blocks) {
		if b, e := strconv.Atoi(strings.TrimSuffix(s, "d")); e == nil {
			m.Put(slot, b, strings.HasSuffix(s, "d"))
		}
	}
}

// leave returns the slots that are told, one behind the other, when room is made in the set of block and each slot is made dirty then.
func leave(m *Map, sets, block int) string {
	var out []string
	for n := 0; ; n++ {
		slot, ok := m.Room(block)
		if !ok {
			return strings.Join(out, " ")
		}
		out = append(out, strconv.Itoa(slot))
		m.Put(slot, block%sets+sets*(1000+n), true)
	}
}

// play goes through a story on a new map, a step in each line. A line shows what is told behind an =: a slot or "no".
//
//	put SLOT BLOCK, with a d behind the block for a dirty one; clean SLOT; drop SLOT; touch SLOT
//	room BLOCK = SLOT; dirtiest BLOCK = SLOT; find BLOCK = SLOT
//	fill TEXT; is TEXT
//	leave BLOCK = SLOTS, as leave tells them: it ends the story
func play(t *testing.T, sets, ways int, story string) {
	t.Helper()
	m := made(t, sets, ways)
	for line := range strings.Lines(story) {
		line = strings.TrimSpace(line)
		name, rest, _ := strings.Cut(line, " ")
		args, want, _ := strings.Cut(rest, " = ")
		got := ""
		switch name {
		case "fill":
			fill(m, rest)
		case "is":
			want, got = rest, text(m, sets*ways)
		case "leave":
			got = leave(m, sets, number(t, args))
		case "put":
			slot, b, _ := strings.Cut(args, " ")
			m.Put(number(t, slot), number(t, strings.TrimSuffix(b, "d")), strings.HasSuffix(b, "d"))
		case "":
		default:
			kind := slices.Index([]string{room: "room", dirtiest: "dirtiest", clean: "clean", drop: "drop", touch: "touch", find: "find"}, name)
			if kind < 0 {
				t.Fatalf("%s: no such step", line)
			}
			n := number(t, args)
			a := do(m, step{kind: kind, slot: n, block: n})
			if want != "" {
				got = "no"
			}
			if a.ok {
				got = strconv.Itoa(a.n)
			} else if a.n != 0 {
				t.Errorf("%s: no, but with %d", line, a.n)
			}
		}
		if got != want {
			t.Errorf("%d sets of %d: %s: got %q; %s", sets, ways, line, got, text(m, sets*ways))
		}
	}
}

func number(t *testing.T, s string) int {
	t.Helper()
	n, e := strconv.Atoi(s)
	if e != nil {
		t.Fatal(e)
	}
	return n
}

// P13.1: New at both ends of its two ranges, and beyond them.
func TestNew(t *testing.T) {
	around := append(far(), -9, -8, -4, -1, 0, 1, 2, 3, 4, 5, 6, 7, 8, 9, 10, 16, 32, 256)
	for _, sets := range around {
		for _, ways := range around {
			good := sets >= 1 && sets <= 8 && ways >= 1 && ways <= 4
			m, e := New(sets, ways)
			if good && (m == nil || e != api.OK) || !good && (m != nil || e != api.ErrArg) {
				t.Errorf("New(%d, %d) = %v, %v", sets, ways, m, e)
			}
		}
	}
}

// P13.1, P13.2: a new map of each size is empty: nothing is found, nothing is dirty, and room is in the first slot of each set.
func TestNewIsEmpty(t *testing.T) {
	for _, x := range sizes() {
		sets, ways := x[0], x[1]
		m := made(t, sets, ways)
		slots := sets * ways
		if !slices.Equal(m.Dirty(), slices.Repeat([]int{-1}, slots)) {
			t.Error(x, m.Dirty())
		}
		for slot := range slots {
			if b, dirty, ok := m.Block(slot); b != -1 || dirty || ok {
				t.Error(x, slot, b, dirty, ok)
			}
		}
		for _, b := range append(far(), -8, -1, 0, 1, 2, 7, 8, 9, 31, 32, 63, 64, 1000) {
			if slot, ok := m.Find(b); slot != 0 || ok {
				t.Errorf("%v: Find(%d) = %d, %v", x, b, slot, ok)
			}
			if slot, ok := m.Dirtiest(b); slot != 0 || ok {
				t.Errorf("%v: Dirtiest(%d) = %d, %v", x, b, slot, ok)
			}
			want := 0
			if b >= 0 {
				want = b % sets * ways
			}
			if slot, ok := m.Room(b); slot != want || ok != (b >= 0) {
				t.Errorf("%v: Room(%d) = %d, %v", x, b, slot, ok)
			}
		}
	}
}

// P13.1: a nil map returns 0, false and none in every method, and stays nil.
func TestNil(t *testing.T) {
	var m *Map
	for _, n := range append(far(), -1, 0, 1, 5) {
		for _, b := range append(far(), -1, 0, 1, 5) {
			for _, dirty := range []bool{false, true} {
				m.Put(n, b, dirty)
			}
		}
		for kind := range kinds {
			if a := do(m, step{kind: kind, slot: n, block: n, dirty: true}); a != (answer{}) {
				t.Errorf("%d of %d: %v", kind, n, a)
			}
		}
		if len(m.Dirty()) != 0 {
			t.Error(m.Dirty())
		}
	}
}

// P13.1: which block is found where, and what is told of each slot: the last one, one behind it, negative ones and far ones.
func TestFindAndBlock(t *testing.T) {
	m := made(t, 3, 2)
	fill(m, "0d 6 4d - - 3000000000002")
	for b, want := range map[int]int{0: 0, 6: 1, 4: 2, 3000000000002: 5} {
		if slot, ok := m.Find(b); slot != want || !ok {
			t.Errorf("Find(%d) = %d, %v", b, slot, ok)
		}
	}
	for _, b := range append(far(), -1, -3, -6, 1, 2, 3, 5, 7, 9, 10, 12) {
		if slot, ok := m.Find(b); slot != 0 || ok {
			t.Errorf("Find(%d) = %d, %v", b, slot, ok)
		}
	}
	for slot, want := range []answer{{0, true, true}, {6, false, true}, {4, true, true}, {-1, false, false}, {-1, false, false}, {3000000000002, false, true}, {-1, false, false}, {-1, false, false}} {
		if b, dirty, ok := m.Block(slot); (answer{b, dirty, ok}) != want {
			t.Errorf("Block(%d) = %d, %v, %v", slot, b, dirty, ok)
		}
	}
	for _, slot := range append(far(), -1, -2, -6, 12) {
		if b, dirty, ok := m.Block(slot); b != -1 || dirty || ok {
			t.Errorf("Block(%d) = %d, %v, %v", slot, b, dirty, ok)
		}
	}
	if want := []int{0, -1, 4, -1, -1, -1}; !slices.Equal(m.Dirty(), want) {
		t.Error(m.Dirty())
	}
}

// P13.1: Dirty on an empty map, on one where all are clean, all are dirty, and where some are.
func TestDirty(t *testing.T) {
	for blocks, want := range map[string][]int{
		"- - - -":     {-1, -1, -1, -1},
		"0 2 1 3":     {-1, -1, -1, -1},
		"0d 2d 1 -":   {0, 2, -1, -1},
		"- 2d - 3d":   {-1, 2, -1, 3},
		"4d 0d 3d 1d": {4, 0, 3, 1},
	} {
		m := made(t, 2, 2)
		fill(m, blocks)
		if !slices.Equal(m.Dirty(), want) || text(m, 4) != blocks {
			t.Errorf("%s: %v; %s", blocks, m.Dirty(), text(m, 4))
		}
		for slot := range 4 {
			m.Clean(slot)
		}
		if !slices.Equal(m.Dirty(), []int{-1, -1, -1, -1}) || text(m, 4) != strings.ReplaceAll(blocks, "d", "") {
			t.Errorf("%s, clean: %v; %s", blocks, m.Dirty(), text(m, 4))
		}
	}
}

// P13.2: Put of a block that is not in the map, of one that is in this slot or in another one, of a block of another set; over other blocks; in slots that there are not, and of negative blocks.
func TestPut(t *testing.T) {
	const before = "0d 6 4d - - 5" // 3 sets of 2
	for _, x := range []struct {
		slot, block int
		dirty       bool
		after       string
	}{
		{3, 1, false, "0d 6 4d 1 - 5"}, {3, 1, true, "0d 6 4d 1d - 5"}, {4, 2, false, "0d 6 4d - 2 5"}, {4, 8, true, "0d 6 4d - 8d 5"},
		{0, 0, true, before}, {0, 0, false, "0 6 4d - - 5"}, {1, 6, false, before}, {1, 6, true, "0d 6d 4d - - 5"}, {5, 5, true, "0d 6 4d - - 5d"},
		{1, 0, true, before}, {1, 0, false, before}, {0, 6, true, before}, {3, 4, true, before}, {3, 4, false, before}, {4, 5, true, before},
		{2, 0, true, before}, {5, 4, true, before}, {0, 5, false, before}, // in another slot, of another set
		{3, 0, true, before}, {3, 2, true, before}, {4, 1, false, before}, {4, 9, true, before}, {0, 1, false, before}, {1, 2, true, before}, {5, 3, true, before}, {3, 3, false, before},
		{0, 3, true, "3d 6 4d - - 5"}, {0, 3, false, "3 6 4d - - 5"}, {1, 9, true, "0d 9d 4d - - 5"}, {1, 9, false, "0d 9 4d - - 5"}, {2, 7, false, "0d 6 7 - - 5"}, {5, 2, true, "0d 6 4d - - 2d"},
		{4, 3000000000002, true, "0d 6 4d - 3000000000002d 5"}, {1, math.MaxInt - 1, false, "0d 9223372036854775806 4d - - 5"}, {3, math.MaxInt, true, "0d 6 4d 9223372036854775807d - 5"},
		{6, 0, true, before}, {6, 9, true, before}, {7, 1, true, before}, {-1, 0, true, before}, {-1, 9, true, before}, {-2, 1, false, before}, {-1, -1, true, before}, {6, -1, true, before},
		{0, -1, true, before}, {3, -1, false, before}, {4, -1, true, before}, {4, -2, true, before}, {5, -1, false, before}, {0, -3, true, before}, {1, -6, false, before},
	} {
		m := made(t, 3, 2)
		fill(m, before)
		m.Put(x.slot, x.block, x.dirty)
		if s := text(m, 6); s != x.after {
			t.Errorf("Put(%d, %d, %v): %s, want %s", x.slot, x.block, x.dirty, s, x.after)
		}
	}
	for _, n := range far() {
		m := made(t, 3, 2)
		fill(m, before)
		for b := range 12 {
			m.Put(n, b, true)
		}
		for slot := range 6 {
			if n < 0 || slot/2 != n%3 {
				m.Put(slot, n, true)
			}
		}
		if s := text(m, 6); s != before {
			t.Errorf("Put with %d: %s", n, s)
		}
	}
}

// P13.2: Put marks: over an empty slot, over another block and over the same one, dirty over clean and clean over dirty.
func TestPutMarks(t *testing.T) {
	// Room for 9 takes all marks and the first slot; the hand is at the second one then.
	const unmarked = "fill 0 1 2 3\nroom 9 = 0\n"
	play(t, 1, 4, unmarked+"leave 9 = 0 1 2 3")
	play(t, 1, 4, unmarked+"put 0 4d\nleave 9 = 1 2 3")
	play(t, 1, 4, unmarked+"put 0 4\nput 1 1\nleave 9 = 2 3 1 0")
	play(t, 1, 4, unmarked+"put 0 4\nput 1 5\nput 2 6d\nput 2 6\nleave 9 = 3 1 2 0")
	play(t, 1, 4, unmarked+"put 0 0\nput 2 2d\nclean 2\nput 1 1d\nput 1 1\nleave 9 = 3 1 2 0")
	play(t, 1, 4, unmarked+"put 0 4\nput 1 -1\nput 1 2\nput 2 3d\nput 5 3\nleave 9 = 1 2 3 0")
}

// P13.2: Clean, Drop and Touch: of dirty and clean slots, of empty ones, and of slots that there are not.
func TestCleanDropTouch(t *testing.T) {
	play(t, 2, 2, "fill 0d 2 1d -\nclean 0\nis 0 2 1d -\nclean 0\nclean 1\nclean 3\nis 0 2 1d -\nclean 2\nis 0 2 1 -\nfind 1 = 2")
	play(t, 2, 2, "fill 0d 2 1d -\ndrop 0\nis - 2 1d -\nfind 0 = no\ndrop 0\ndrop 3\nis - 2 1d -\ndrop 1\ndrop 2\nis - - - -\nfind 1 = no\nfind 2 = no\ndirtiest 0 = no\ndirtiest 1 = no")
	play(t, 2, 2, "fill 0d 2 1d -\ntouch 0\ntouch 1\ntouch 2\ntouch 3\nis 0d 2 1d -")
	play(t, 2, 2, "touch 1\nclean 1\ndrop 1\nis - - - -\nroom 0 = 0\nput 1 0\ndrop 1\nroom 0 = 0\nput 0 2\nroom 0 = 1")
	for _, slot := range append(far(), -1, -2, -4, 4, 5, 8) {
		m := made(t, 2, 2)
		fill(m, "0d 2 1d -")
		for _, call := range []func(slot int){m.Clean, m.Drop, m.Touch} {
			call(slot)
			if s := text(m, 4); s != "0d 2 1d -" {
				t.Errorf("of slot %d: %s", slot, s)
			}
		}
	}
	// what was dropped is put elsewhere
	play(t, 1, 2, "put 0 5d\nput 1 5\nis 5d -\ndrop 0\nput 1 5\nis - 5")
}

// P13.2: Touch marks what has lost its mark, and no other slot; of an empty slot it does nothing.
func TestTouch(t *testing.T) {
	const unmarked = "fill 0 1 2 3\nroom 9 = 0\nput 0 4d\n"
	play(t, 1, 4, unmarked+"touch 1\nleave 9 = 2 3 1")
	play(t, 1, 4, unmarked+"touch 1\ntouch 2\nleave 9 = 3 1 2")
	play(t, 1, 4, unmarked+"touch 3\nleave 9 = 1 2 3")
	play(t, 1, 4, unmarked+"touch 2\nleave 9 = 1 3 2")
	play(t, 1, 4, unmarked+"touch -1\ntouch 4\ntouch 5\nleave 9 = 1 2 3")
	play(t, 1, 4, unmarked+"drop 2\ntouch 2\nleave 9 = 2 1 3")
	// Clean leaves the mark as it is, with or without one.
	play(t, 1, 4, unmarked+"clean 0\nclean 2\nleave 9 = 1 2 3 0")
	play(t, 1, 4, "fill 0 1 2d 3\nroom 9 = 0\nput 0 4d\nclean 2\nleave 9 = 1 3 2")
}

// P13.2: room is in the first empty slot, whatever is clean and wherever the hand is; neither the hand moves nor a mark goes.
func TestRoomIsWhereNoneIs(t *testing.T) {
	play(t, 1, 4, "room 3 = 0\nroom 3 = 0\nput 2 2\nroom 3 = 0\nput 0 0\nroom 3 = 1\nput 1 1d\nroom 9 = 3\nroom 9 = 3\nis 0 1d 2 -")
	play(t, 1, 4, "fill 0 1 2 3\nroom 9 = 0\nput 0 4\nroom 9 = 1\ndrop 3\nroom 9 = 1\nput 1 5\nroom 9 = 3\nput 3 7\nleave 9 = 2 3 0 1")
	play(t, 1, 4, "fill 0 1 2 3\ndrop 2\nroom 9 = 2\nroom 9 = 2\nput 2 4d\nleave 9 = 0 1 3")
	play(t, 1, 4, "fill 0 1d 2 3d\ndirtiest 0 = 1\ndrop 0\nroom 9 = 0\ndrop 3\nroom 9 = 0\nput 0 4\nroom 9 = 3\nput 3 5d\nleave 9 = 2 0")
	play(t, 2, 2, "fill 0 2 1 -\nroom 1 = 3\nroom 7 = 3\nput 3 7\ndrop 2\nroom 7 = 2\nis 0 2 - 7")
}

// P13.2: the clock: it takes marks on its way and leaves the slot that it tells empty, and the hand is behind that slot then.
func TestRoomTakesMarks(t *testing.T) {
	// all are marked
	play(t, 1, 3, "fill 0 1 2\nroom 9 = 0\nis - 1 2\nput 0 9\nroom 8 = 1\nis 9 - 2\nput 1 8\nroom 7 = 2\nis 9 8 -\nput 2 7\nroom 6 = 0\nis - 8 7")
	play(t, 1, 1, "put 0 5\nroom 6 = 0\nis -\nput 0 6\nroom 5 = 0\nis -\nroom 5 = 0")
	// none is marked but what was put in the place of the one that went
	play(t, 1, 4, "fill 0 1 2 3\nroom 9 = 0\nput 0 4\nroom 9 = 1\nput 1 5\nroom 9 = 2\nput 2 6\nroom 9 = 3\nput 3 7\nleave 9 = 0 1 2 3")
	// the marks between the hand and the slot that is told go, the others stay
	play(t, 1, 4, "fill 0 1 2 3\nroom 9 = 0\nput 0 4d\ntouch 1\nroom 9 = 2\nput 2 5d\ntouch 3\nleave 9 = 1 3")
	play(t, 1, 4, "fill 0 1 2 3\nroom 9 = 0\nput 0 4\nroom 9 = 1\nput 1 5\ntouch 2\nroom 9 = 3\nput 3 6\nclean 0\nleave 9 = 2 0 1 3")
	// the hand goes from the last way to the first one
	play(t, 1, 2, "fill 0 1\nroom 9 = 0\nput 0 2\nroom 9 = 1\nput 1 3\nroom 9 = 0\nput 0 4\nroom 9 = 1\nis 4 -")
	// a block that is in the map is asked like any other
	play(t, 1, 2, "fill 0 1\nroom 1 = 0\nroom 1 = 0\nis - 1")
}

// P13.2, P13.3: the clock passes over dirty slots and leaves their marks; where all are dirty there is no room, and nothing changes.
func TestRoomPassesDirty(t *testing.T) {
	play(t, 1, 3, "fill 0d 1 2d\nroom 9 = 1\nis 0d - 2d\nput 1 9d\nroom 8 = no\nroom 8 = no\nis 0d 9d 2d")
	play(t, 1, 3, "fill 0d 1d 2\nroom 9 = 2\nput 2 3\nroom 9 = 2\nis 0d 1d -")
	// hand behind slot 1; 0 was passed over with its mark, so that 2 goes ahead of it once the hand is there
	play(t, 1, 3, "fill 0d 1 2\nroom 9 = 1\nclean 0\nput 1 4d\ndirtiest 9 = 1\ndrop 2\nput 2 5\nleave 9 = 2 0")
	play(t, 1, 4, "fill 0 1d 2d 3\nroom 9 = 0\nput 0 4d\nclean 1\nclean 2\nleave 9 = 3 1 2")
	play(t, 1, 4, "fill 0 1d 2d 3\nroom 9 = 0\nput 0 4d\nclean 1\nclean 2\nput 3 3\nleave 9 = 1 2 3")
	// no room: the hand stays, and so does each mark
	play(t, 1, 4, "fill 0d 1d 2d 3d\nroom 9 = no\nclean 1\nclean 3\nleave 9 = 1 3")
	play(t, 1, 4, "fill 0d 1d 2d 3d\ndirtiest 9 = 0\ndirtiest 9 = 1\nroom 9 = no\nis 0d 1d 2d 3d\nclean 1\nclean 3\nleave 9 = 3 1")
	play(t, 1, 1, "put 0 5d\nroom 6 = no\nroom 5 = no\nclean 0\nroom 6 = 0\nis -")
	play(t, 8, 1, "fill 0d 1 2d 3 4d 5 6d 7\nroom 8 = no\nroom 9 = 1\nroom 16 = no\nroom 15 = 7\nis 0d - 2d 3 4d 5 6d -")
}

// P13.2: Dirtiest begins at the hand and goes around once; the hand is behind the slot that it tells, and stays if it tells none. No slot and no mark changes.
func TestDirtiest(t *testing.T) {
	play(t, 1, 4, "fill 0d 1d 2d 3d\ndirtiest 0 = 0\ndirtiest 9 = 1\ndirtiest 2 = 2\ndirtiest 3 = 3\ndirtiest 0 = 0\nis 0d 1d 2d 3d")
	play(t, 1, 4, "fill 0 1d - 3d\ndirtiest 9 = 1\ndirtiest 9 = 3\ndirtiest 9 = 1\nis 0 1d - 3d\nclean 3\ndirtiest 9 = 1\ndirtiest 9 = 1")
	play(t, 1, 4, "fill 0 1 2 3d\ndirtiest 9 = 3\ndirtiest 9 = 3\nleave 9 = 0 1 2")
	play(t, 1, 1, "dirtiest 0 = no\nput 0 0\ndirtiest 0 = no\nput 0 0d\ndirtiest 0 = 0\ndirtiest 5 = 0")
	// none is dirty: the hand stays at the third way
	play(t, 1, 4, "fill 0 1d 2 3\ndirtiest 9 = 1\nclean 1\ndirtiest 9 = no\ndirtiest 9 = no\ndirtiest -1 = no\nleave 9 = 2 3 0 1")
	play(t, 1, 4, "fill 0 1d 2 3\ndirtiest 9 = 1\nput 0 0d\nput 3 3d\ndirtiest 9 = 3\ndirtiest 9 = 0")
	// Room and Dirtiest have one hand
	play(t, 1, 4, "fill 0 1d 2 3d\nroom 9 = 0\ndirtiest 9 = 1\nput 0 4\nroom 9 = 2\ndirtiest 9 = 3\ndirtiest 9 = 1")
	// it takes no marks, whether it passes the slots or not: the only one without a mark goes first
	play(t, 1, 4, "fill 0 1 2 3\nroom 9 = 0\nput 0 4\ntouch 2\nput 1 5d\ndirtiest 9 = 1\nleave 9 = 3 2 0")
	play(t, 1, 4, "fill 0 1 2 3\nroom 9 = 0\ntouch 1\nput 3 5d\ndirtiest 9 = 3\nput 0 4\nleave 9 = 2 0 1")
}

// P13.2: each set has a hand of its own, and marks and slots of its own.
func TestHandsOfSets(t *testing.T) {
	play(t, 2, 3, "fill 0 2 4 1 3 5\nroom 6 = 0\nput 0 6\nroom 8 = 1\nput 1 8\nroom 7 = 3\nis 6 8 4 - 3 5\nput 3 7\nroom 10 = 2\nroom 9 = 4\nis 6 8 - 7 - 5")
	play(t, 2, 3, "fill 0d 2d 4d 1d 3d 5d\ndirtiest 0 = 0\ndirtiest 2 = 1\ndirtiest 1 = 3\ndirtiest 0 = 2\ndirtiest 3 = 4\ndirtiest 0 = 0\ndirtiest 9 = 5\ndirtiest 1 = 3")
	play(t, 3, 2, "fill 0d 3d 1 4 2 5d\nroom 6 = no\nroom 7 = 2\nroom 8 = 4\nis 0d 3d - 4 - 5d")
	for _, x := range sizes() {
		m := made(t, x[0], x[1])
		for slot := range x[0] * x[1] {
			m.Put(slot, slot/x[1]+x[0]*(slot%x[1]), true)
		}
		for lap := range 2 * x[1] {
			for set := range x[0] {
				if slot, ok := m.Dirtiest(set + 5*x[0]); slot != set*x[1]+lap%x[1] || !ok {
					t.Errorf("%v: lap %d of set %d: %d, %v", x, lap, set, slot, ok)
				}
			}
		}
	}
}

// P13.2: for negative blocks, neither Room nor Dirtiest tells a slot or changes anything: empty slots stay, marks and hands too.
func TestNegativeBlocks(t *testing.T) {
	for _, n := range append(far(), -1, -2, -3, -4, -8) {
		if n >= 0 {
			continue
		}
		s := strconv.Itoa(n)
		play(t, 2, 2, "room "+s+" = no\ndirtiest "+s+" = no\nfind "+s+" = no\nis - - - -")
		play(t, 2, 2, "fill 0 2d 1 3\nroom "+s+" = no\ndirtiest "+s+" = no\nfind "+s+" = no\nis 0 2d 1 3\nroom 4 = 0\ndirtiest 0 = 1\nleave 1 = 2 3")
		play(t, 1, 3, "fill 0 1 2\nroom 9 = 0\nput 0 4\ntouch 1\nroom "+s+" = no\ndirtiest "+s+" = no\nleave 9 = 2 1 0")
	}
}

// P13.2: blocks far larger than the number of slots are in their sets like others.
func TestFarBlocks(t *testing.T) {
	const far0, far1 = "9223372036854775806", "9223372036854775807"
	play(t, 2, 2, "room "+far0+" = 0\nroom "+far1+" = 2\nput 1 "+far0+"d\nput 2 "+far1+"\nput 3 "+far0+"\nput 0 "+far1+"\nis - "+far0+"d "+far1+" -\nfind "+far0+" = 1\nfind "+far1+" = 2\ndirtiest "+far0+" = 1\ndirtiest "+far1+" = no")
	play(t, 8, 4, "room "+far1+" = 28\nroom "+far0+" = 24\nroom 4294967296 = 0\nroom 4294967301 = 20")
}

// Example 1: with two ways, a third block takes the slot of the first one as soon as this one has lost its mark.
func TestExample(t *testing.T) {
	play(t, 1, 2, "room 1 = 0\nput 0 1\nroom 2 = 1\nput 1 2\nroom 3 = 0\nput 0 3\nis 3 2")
	// the first one keeps its mark while others go
	play(t, 1, 2, "put 0 1\nput 1 2\nroom 3 = 0\nput 0 1\nroom 3 = 1\nput 1 3\nis 1 3\nroom 4 = 0\nput 0 4\nis 4 3")
}

// Find, Block and Dirty change nothing: a map that is looked at between all steps answers as one that is not.
func TestLookingChangesNothing(t *testing.T) {
	for _, x := range [][2]int{{1, 1}, {1, 2}, {1, 4}, {2, 3}, {8, 4}} {
		plain, looked := made(t, x[0], x[1]), made(t, x[0], x[1])
		o := newTold(x[0], x[1])
		r := rand.New(rand.NewSource(15))
		for range 3000 {
			s := random(r, x[0], x[1])
			for b := -2; b < 3*x[0]*x[1]; b++ {
				looked.Find(b)
				looked.Block(b)
			}
			looked.Dirty()
			if a, b, want := do(plain, s), do(looked, s), do(o, s); a != want || b != want {
				t.Fatalf("%v: %v: %v, looked at %v, want %v", x, s, a, b, want)
			}
		}
	}
}
