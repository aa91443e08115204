package chain

import (
	"math"
	"math/rand"
	"slices"
	"testing"

	"revetment/api"
)

// edited is what one change makes of three snapshots, and whether they are valid then for 5 blocks and an area of 8.
type edited struct {
	name string
	edit func(l []api.Snap)
	good bool
}

// judge holds Good, and the tests' own, against each of these.
func judge(t *testing.T, all []edited) {
	for _, x := range all {
		l := three()
		x.edit(l)
		if Good(l, 5, 8) != x.good {
			t.Errorf("%s: Good is %v", x.name, !x.good)
		}
		if toldGood(l, 5, 8) != x.good {
			t.Errorf("%s: the tests' own is %v", x.name, !x.good)
		}
	}
}

// P11.1: Ids by hand: at the edges, equal and descending.
func TestGoodIdsByHand(t *testing.T) {
	judge(t, []edited{
		{"as it is", func(l []api.Snap) {}, true},
		{"first Id 0", func(l []api.Snap) { l[0].Id = 0 }, false},
		{"first Id 1", func(l []api.Snap) { l[0].Id = 1 }, true},
		{"first Id negative", func(l []api.Snap) { l[0].Id = -1 }, false},
		{"first Id least", func(l []api.Snap) { l[0].Id = math.MinInt }, false},
		{"Ids equal", func(l []api.Snap) { l[0].Id = 4 }, false},
		{"Ids equal behind", func(l []api.Snap) { l[2].Id = 4 }, false},
		{"Ids descend", func(l []api.Snap) { l[0].Id = 5 }, false},
		{"Ids descend behind", func(l []api.Snap) { l[1].Id = 10 }, false},
		{"Id as that of the first one, far behind", func(l []api.Snap) { l[2].Id = 3 }, false},
		{"last Id 1000000", func(l []api.Snap) { l[2].Id = 1000000 }, true},
		{"last Id 1000001", func(l []api.Snap) { l[2].Id = 1000001 }, false},
		{"last Id greatest", func(l []api.Snap) { l[2].Id = math.MaxInt }, false},
		{"all Ids too great", func(l []api.Snap) { l[0].Id, l[1].Id, l[2].Id = 1000001, 1000002, 1000003 }, false},
		{"all Ids negative", func(l []api.Snap) { l[0].Id, l[1].Id, l[2].Id = -3, -2, -1 }, false},
	})
}

// P11.1: Changed by hand: its length, bits beyond the blocks, blocks that are held but not changed, and changed but not held.
func TestGoodChangedByHand(t *testing.T) {
	judge(t, []edited{
		{"Changed nil", func(l []api.Snap) { l[0] = api.Snap{Id: 3} }, false},
		{"Changed nil, last", func(l []api.Snap) { l[2] = api.Snap{Id: 9} }, false},
		{"Changed too long", func(l []api.Snap) { l[0].Changed = []byte{5, 0} }, false},
		{"Changed too long, last", func(l []api.Snap) { l[2].Changed = []byte{18, 0} }, false},
		{"bit beyond the blocks, last", func(l []api.Snap) { l[2].Changed[0] = 0b110010 }, false},
		{"greatest bit, last", func(l []api.Snap) { l[2].Changed[0] = 0b10010010 }, false},
		{"bit beyond the blocks, first", func(l []api.Snap) { l[0].Changed[0] = 0b100101 }, false},
		{"all blocks changed, last", func(l []api.Snap) { l[2].Changed[0] = 0b11111 }, true},
		{"all blocks changed, one ahead", func(l []api.Snap) { l[1].Changed[0] = 0b11111 }, false},
		{"a changed block not held, first", func(l []api.Snap) { l[0].Table = l[0].Table[:1] }, false},
		{"a changed block not held, second", func(l []api.Snap) { l[1].Table = l[1].Table[1:] }, false},
		{"none held, first", func(l []api.Snap) { l[0].Table = nil }, false},
		{"none held, last", func(l []api.Snap) { l[2].Table = nil }, true},
		{"none held, nor changed, first", func(l []api.Snap) { l[0] = snap(3, 0) }, true},
		{"none held, nor changed, last", func(l []api.Snap) { l[2] = snap(9, 0) }, true},
		{"a held block not changed, first", func(l []api.Snap) { l[0].Changed[0] = 0b00100 }, false},
		{"a held block not changed, last", func(l []api.Snap) { l[2].Changed[0] = 0b00010 }, false},
		{"another block held than changed", func(l []api.Snap) { l[0].Changed[0] = 0b01100 }, false},
	})
}

// P11.1: Tables by hand: pairs in and out of their ranges and order, and an At that occurs twice, in one Table, in two side by side and in two far apart.
func TestGoodTablesByHand(t *testing.T) {
	judge(t, []edited{
		{"a block held twice", func(l []api.Snap) { l[0].Table = pairs(0, 7, 0, 1) }, false},
		{"a block held twice, last", func(l []api.Snap) { l[2].Table = pairs(4, 2, 4, 3) }, false},
		{"blocks descend", func(l []api.Snap) { l[0].Table = pairs(2, 1, 0, 7) }, false},
		{"an At twice in a Table", func(l []api.Snap) { l[0].Table = pairs(0, 7, 2, 7) }, false},
		{"an At in the first and the second Table", func(l []api.Snap) { l[1].Table[0].At = 7 }, false},
		{"an At in the second and the last Table", func(l []api.Snap) { l[2].Table[0].At = 5 }, false},
		{"an At in the first and the last Table", func(l []api.Snap) { l[2].Table[0].At = 1 }, false},
		{"block -1", func(l []api.Snap) { l[2].Table[0].Block = -1 }, false},
		{"block 5", func(l []api.Snap) { l[2].Table[0].Block = 5 }, false},
		{"At -1", func(l []api.Snap) { l[2].Table[0].At = -1 }, false},
		{"At 8", func(l []api.Snap) { l[2].Table[0].At = 8 }, false},
		{"At 3", func(l []api.Snap) { l[2].Table[0].At = 3 }, true},
		{"At 8, first", func(l []api.Snap) { l[0].Table[0].At = 8 }, false},
	})
}

// P11.1: from no snapshots to far more than MaxSnaps.
func TestGoodLengths(t *testing.T) {
	if !Good(nil, 5, 8) || !Good([]api.Snap{}, 5, 8) || !Good(three()[:0], 5, 8) || !Good(three()[:1], 5, 8) || !Good(three()[:2], 5, 8) {
		t.Error("the beginnings of three snapshots")
	}
	for n := range 40 {
		if Good(bare(n), 5, 8) != (n <= 8) {
			t.Errorf("%d snapshots: Good is %v", n, n > 8)
		}
	}
	if Good(bare(300000), 5, 8) {
		t.Error("300000 snapshots")
	}
}

// P11.1: one snapshot with each Id.
func TestGoodIds(t *testing.T) {
	for _, id := range append(far(), 0, 1, 2, 999999, 1000000, 1000001, 1000002) {
		if Good([]api.Snap{snap(id, 0)}, 5, 8) != (id >= 1 && id <= 1000000) {
			t.Errorf("Id %d", id)
		}
	}
	for _, a := range []int{-1, 0, 1, 2, 999999, 1000000, 1000001} {
		for _, b := range []int{-1, 0, 1, 2, 999999, 1000000, 1000001} {
			if Good([]api.Snap{snap(a, 0), snap(b, 0)}, 5, 8) != (a >= 1 && a < b && b <= 1000000) {
				t.Errorf("Ids %d and %d", a, b)
			}
		}
	}
}

// P11.1: of blocks or an area of 0 or less, no snapshot can hold anything; without blocks Changed has no bytes.
func TestGoodOfNone(t *testing.T) {
	nothing := []api.Snap{{Id: 1}, {Id: 2}}
	for _, n := range []int{0, -1, -2, -64, math.MinInt32, math.MinInt, math.MinInt + 1} {
		for _, m := range append(far(), 0, 1, 8) {
			if !Good(nil, n, m) || !Good(nil, m, n) {
				t.Errorf("no snapshots for %d and %d", n, m)
			}
			if !Good(nothing, n, m) || Good(bare(2), n, m) || Good(three(), n, m) || Good([]api.Snap{{Id: 1, Table: pairs(0, 0)}}, n, m) {
				t.Errorf("%d blocks, an area of %d", n, m)
			}
		}
		if !Good(bare(2), 5, n) || Good(nothing, 5, n) || Good(three(), 5, n) || Good([]api.Snap{snap(1, 1, 0, 0)}, 5, n) || !Good([]api.Snap{snap(1, 1)}, 5, n) {
			t.Errorf("an area of %d", n)
		}
	}
}

// P11.1: Changed has the bytes of bits.New for the number of blocks, whatever the number.
func TestGoodOfEachSize(t *testing.T) {
	for _, blocks := range []int{1, 2, 7, 8, 9, 63, 64, 65, 4095, 4096} {
		size := (blocks + 7) / 8
		for _, n := range []int{0, size - 1, size, size + 1} {
			l := []api.Snap{{Id: 1, Changed: make([]byte, n)}}
			if Good(l, blocks, 8) != (n == size) {
				t.Errorf("%d blocks: %d bytes", blocks, n)
			}
		}
		for _, block := range []int{0, blocks - 1, blocks, blocks + 1} {
			if block/8 >= size {
				continue
			}
			l := []api.Snap{{Id: 1, Changed: make([]byte, size), Table: pairs(block, 0)}}
			if Good(l, blocks, 8) {
				t.Errorf("%d blocks: block %d is not changed", blocks, block)
			}
			l[0].Changed[block/8] = 1 << (block % 8)
			if Good(l, blocks, 8) != (block < blocks) {
				t.Errorf("%d blocks: block %d", blocks, block)
			}
		}
	}
	for _, blocks := range []int{4097, 5000, math.MaxInt32, math.MaxInt} {
		if !Good([]api.Snap{{Id: 1}}, blocks, 8) || Good([]api.Snap{{Id: 1, Changed: make([]byte, 513)}}, blocks, 8) || Good([]api.Snap{{Id: 1, Table: pairs(0, 0)}}, blocks, 8) {
			t.Errorf("%d blocks", blocks)
		}
	}
}

// P11.1: eight full snapshots of as many blocks as a set can have, and the same ones with an At of the first one in the last one.
func TestGoodOfLarge(t *testing.T) {
	l := make([]api.Snap, api.MaxSnaps)
	for i := range l {
		l[i] = api.Snap{Id: i + 1, Changed: slices.Repeat([]byte{255}, 512)}
		for block := range 4096 {
			l[i].Table = append(l[i].Table, api.Pair{Block: block, At: math.MaxInt - 1 - (block*8+i)*7919})
		}
	}
	if !Good(l, 4096, math.MaxInt) || Good(l, 4096, math.MaxInt-1) || Good(l, 4095, math.MaxInt) {
		t.Error("eight full snapshots")
	}
	l[7].Table[4095].At = l[0].Table[0].At
	if Good(l, 4096, math.MaxInt) {
		t.Error("an At of the first one in the last one")
	}
}

// snaps are all snapshots with one of the Ids, of the sets and of the tables.
func snaps(ids []int, sets [][]byte, tables [][]api.Pair) []api.Snap {
	var out []api.Snap
	for _, id := range ids {
		for _, set := range sets {
			for _, table := range tables {
				out = append(out, api.Snap{Id: id, Changed: set, Table: table})
			}
		}
	}
	return out
}

// tables are all tables of at most two pairs of these Blocks and Ats.
func tables(blocks, ats []int) [][]api.Pair {
	out := [][]api.Pair{nil}
	for _, b := range blocks {
		for _, a := range ats {
			out = append(out, pairs(b, a))
			for _, c := range blocks {
				for _, d := range ats {
					out = append(out, pairs(b, a, c, d))
				}
			}
		}
	}
	return out
}

// P11.1: every one and every two of many small snapshots, for small numbers of blocks and sizes of the area, held against the document's words.
func TestGoodOfEachTwoSmall(t *testing.T) {
	all := snaps([]int{0, 1, 2}, [][]byte{nil, {0}, {1}, {2}, {3}, {4}, {3, 0}}, tables([]int{0, 1}, []int{0, 1}))
	good := 0
	check := func(l []api.Snap) {
		for blocks := -1; blocks < 4; blocks++ {
			for area := range 3 {
				want := toldGood(l, blocks, area)
				if want {
					good++
				}
				if Good(l, blocks, area) != want {
					t.Fatalf("Good(%v, %d, %d) is %v", l, blocks, area, !want)
				}
			}
		}
	}
	for i, a := range all {
		check(all[i : i+1])
		for _, b := range all {
			check([]api.Snap{a, b})
		}
	}
	if good < 100 {
		t.Errorf("only %d were good", good)
	}
}

// P11.1: every three of small snapshots of two blocks, their Ids ascending, held against the document's words.
func TestGoodOfEachThreeSmall(t *testing.T) {
	all := snaps([]int{0}, [][]byte{{0}, {1}, {2}, {3}}, slices.Concat(tables([]int{0}, []int{0, 1, 2})[:2], tables([]int{1}, []int{0, 1, 2}), [][]api.Pair{pairs(0, 1), pairs(0, 2), pairs(0, 1, 1, 2), pairs(0, 2, 1, 0), pairs(0, 0, 1, 0), pairs(1, 0, 0, 1)}))
	good := 0
	for _, a := range all {
		for _, b := range all {
			for _, c := range all {
				l := []api.Snap{a, b, c}
				l[0].Id, l[1].Id, l[2].Id = 1, 2, 3
				want := toldGood(l, 2, 3)
				if want {
					good++
				}
				if Good(l, 2, 3) != want {
					t.Fatalf("Good(%v, 2, 3) is %v", l, !want)
				}
			}
		}
	}
	if good < 100 {
		t.Errorf("only %d were good", good)
	}
}

// P11.1: valid chains of every length, and what becomes of them when one of their numbers changes.
func TestGoodOfOneFault(t *testing.T) {
	r := rand.New(rand.NewSource(1))
	faults := 0
	check := func(l []api.Snap, edit func(l []api.Snap)) {
		l = allNew(l)
		edit(l)
		want := toldGood(l, 20, 60)
		if !want {
			faults++
		}
		if Good(l, 20, 60) != want {
			t.Fatalf("Good(%v, 20, 60) is %v", l, !want)
		}
	}
	for range 30 {
		l := valid(r, 1+r.Intn(8), 20, 60)
		if !toldGood(l, 20, 60) || !Good(l, 20, 60) {
			t.Fatalf("%v is not good", l)
		}
		for i, s := range l {
			for _, id := range ids(l) {
				check(l, func(l []api.Snap) { l[i].Id = id })
			}
			for bit := range 24 {
				check(l, func(l []api.Snap) { l[i].Changed[bit/8] ^= 1 << (bit % 8) })
			}
			check(l, func(l []api.Snap) { l[i].Changed = l[i].Changed[:2] })
			check(l, func(l []api.Snap) { l[i].Changed = append(l[i].Changed, 0) })
			check(l, func(l []api.Snap) { l[i].Changed = nil })
			for k := range s.Table {
				for v := -1; v <= 60; v++ {
					check(l, func(l []api.Snap) { l[i].Table[k].At = v })
					check(l, func(l []api.Snap) { l[i].Table[k].Block = v })
				}
				check(l, func(l []api.Snap) { l[i].Table = slices.Delete(l[i].Table, k, k+1) })
				check(l, func(l []api.Snap) { l[i].Table = slices.Insert(l[i].Table, k, l[i].Table[k]) })
			}
		}
	}
	if faults < 1000 {
		t.Errorf("only %d faults", faults)
	}
}

// P11.1: all samples, for numbers of blocks and sizes of the area that fit some of them, held against the document's words.
func TestGoodOfSamples(t *testing.T) {
	good := 0
	for _, l := range samples() {
		for _, blocks := range append(far(), 0, 1, 4, 5, 6, 8, 9, 12, 63, 64, 65) {
			for _, area := range append(far(), 0, 1, 3, 4, 7, 8, 60, 199, 200) {
				want := toldGood(l, blocks, area)
				if want && len(l) > 0 {
					good++
				}
				if Good(l, blocks, area) != want {
					t.Fatalf("Good(%v, %d, %d) is %v", l, blocks, area, !want)
				}
			}
		}
	}
	if good == 0 {
		t.Error("none was good")
	}
}
