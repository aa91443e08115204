package chain

import (
	"math"
	"math/rand"
	"slices"
	"testing"

	"revetment/api"
)

// P11.1: Index by hand: an Id that occurs once, twice, and not at all.
func TestIndexByHand(t *testing.T) {
	twice := []api.Snap{snap(4, 0), snap(-2, 0), snap(4, 0), snap(0, 0), snap(math.MaxInt, 0), snap(-2, 0)}
	for _, x := range []struct {
		l        []api.Snap
		id, want int
	}{
		{three(), 3, 0}, {three(), 4, 1}, {three(), 9, 2},
		{three(), 5, -1}, {three(), 0, -1}, {three(), 1, -1}, {three(), -3, -1}, {three(), math.MaxInt, -1}, {three(), math.MinInt, -1}, {three(), 1<<32 + 3, -1},
		{nil, 0, -1}, {nil, 1, -1}, {[]api.Snap{}, 0, -1}, {three()[:0], 3, -1}, {three()[:1], 3, 0}, {three()[:1], 4, -1},
		{twice, 4, 0}, {twice, -2, 1}, {twice, 0, 3}, {twice, math.MaxInt, 4}, {twice, 2, -1},
		{bare(9), 9, 8}, {bare(9), 10, -1},
	} {
		if i := Index(x.l, x.id); i != x.want {
			t.Errorf("Index(%v, %d) = %d", x.l, x.id, i)
		}
	}
}

// P11.1: Index in all samples, held against the document's words.
func TestIndex(t *testing.T) {
	for _, l := range samples() {
		for _, id := range ids(l) {
			if i := Index(l, id); i != toldIndex(l, id) {
				t.Errorf("Index(%v, %d) = %d", l, id, i)
			}
		}
	}
}

// P11.1: Holder by hand: a block that the snapshot has itself, that a later one has, that two have, that only an earlier one or none has.
func TestHolderByHand(t *testing.T) {
	odd := []api.Snap{snap(1, 0, 6, 1, 6, 2), {}, snap(1, 0, 7, 3, -5, 4, 6, 5, math.MaxInt, -9)}
	for _, x := range []struct {
		l            []api.Snap
		i, block, at int
		ok           bool
	}{
		{three(), 0, 0, 7, true}, {three(), 0, 2, 1, true}, {three(), 1, 2, 0, true}, {three(), 0, 3, 5, true}, {three(), 1, 3, 5, true},
		{three(), 0, 4, 2, true}, {three(), 1, 4, 2, true}, {three(), 2, 4, 2, true},
		{three(), 0, 1, 0, false}, {three(), 2, 1, 0, false}, {three(), 1, 0, 0, false}, {three(), 2, 2, 0, false}, {three(), 2, 3, 0, false},
		{three(), 0, -1, 0, false}, {three(), 0, 5, 0, false}, {three(), 0, math.MaxInt, 0, false}, {three(), 0, math.MinInt, 0, false},
		{three(), 3, 4, 0, false}, {three(), 4, 4, 0, false}, {three(), math.MaxInt, 4, 0, false},
		{three(), -1, 0, 0, false}, {three(), -1, 4, 0, false}, {three(), -3, 0, 0, false}, {three(), math.MinInt, 0, 0, false},
		{nil, 0, 0, 0, false}, {[]api.Snap{}, 0, 0, 0, false}, {three()[:0], 0, 0, 0, false}, {three()[:1], 0, 2, 1, true}, {three()[:1], 0, 3, 0, false}, {three()[:2], 0, 4, 0, false},
		{odd, 0, 6, 1, true}, {odd, 1, 6, 5, true}, {odd, 2, 6, 5, true}, {odd, 0, -5, 4, true}, {odd, 1, math.MaxInt, -9, true}, {odd, 0, 5, 0, false},
	} {
		if at, ok := Holder(x.l, x.i, x.block); at != x.at || ok != x.ok {
			t.Errorf("Holder(%v, %d, %d) = %d, %v", x.l, x.i, x.block, at, ok)
		}
	}
}

// P11.1: Holder in all samples, at each index, held against the document's words.
func TestHolder(t *testing.T) {
	for _, l := range samples() {
		for _, i := range indexes(l) {
			for _, block := range blocksOf(l) {
				at, ok := Holder(l, i, block)
				if wantAt, want := toldHolder(l, i, block); at != wantAt || ok != want {
					t.Fatalf("Holder(%v, %d, %d) = %d, %v", l, i, block, at, ok)
				}
			}
		}
	}
}

// P11.1: Changed by hand: one snapshot, some, all, none, indexes beyond both ends, and sets that are not of one length.
func TestChangedByHand(t *testing.T) {
	odd := []api.Snap{{Changed: []byte{1, 2, 0}}, {}, {Changed: []byte{128}}, {Changed: []byte{0, 4, 0, 8}}}
	for _, x := range []struct {
		l    []api.Snap
		i, j int
		want []byte
	}{
		{three(), 0, 1, []byte{0b00101}}, {three(), 1, 2, []byte{0b01100}}, {three(), 2, 3, []byte{0b10010}},
		{three(), 0, 2, []byte{0b01101}}, {three(), 1, 3, []byte{0b11110}}, {three(), 0, 3, []byte{0b11111}},
		{three(), 0, 4, []byte{0b11111}}, {three(), 2, 99, []byte{0b10010}}, {three(), 2, math.MaxInt, []byte{0b10010}},
		{three(), -5, 1, []byte{0b00101}}, {three(), -1, 0, nil}, {three(), -5, -1, nil}, {three(), math.MinInt, math.MaxInt, []byte{0b11111}},
		{three(), 0, 0, nil}, {three(), 1, 1, nil}, {three(), 2, 1, nil}, {three(), 2, 0, nil}, {three(), 2, -1, nil}, {three(), 0, math.MinInt, nil},
		{three(), 3, 9, nil}, {three(), 3, 3, nil}, {three(), math.MaxInt, math.MaxInt, nil}, {three(), math.MaxInt, math.MinInt, nil},
		{nil, 0, 1, nil}, {nil, math.MinInt, math.MaxInt, nil}, {[]api.Snap{}, 0, 1, nil}, {three()[:0], 0, 3, nil}, {three()[:1], 0, 3, []byte{0b00101}},
		{odd, 0, 4, []byte{129, 6, 0, 8}}, {odd, 0, 3, []byte{129, 2, 0}}, {odd, 1, 3, []byte{128}}, {odd, 1, 2, nil}, {odd, 2, 4, []byte{128, 4, 0, 8}},
		{bare(9), 0, 9, []byte{0}},
	} {
		if b := Changed(x.l, x.i, x.j); !slices.Equal(b, x.want) {
			t.Errorf("Changed(%v, %d, %d) = %v, want %v", x.l, x.i, x.j, b, x.want)
		}
	}
}

// P11.1: Changed of all samples, between every two indexes, held against the document's words.
func TestChanged(t *testing.T) {
	for _, l := range samples() {
		for _, i := range indexes(l) {
			for _, j := range indexes(l) {
				if b := Changed(l, i, j); !slices.Equal(b, toldChanged(l, i, j)) {
					t.Fatalf("Changed(%v, %d, %d) = %v", l, i, j, b)
				}
			}
		}
	}
}

// P11.2: the chapter's example: the first one takes over what it does not have, and keeps what it has.
func TestExample(t *testing.T) {
	want := []api.Snap{snap(3, 0b01101, 0, 7, 2, 1, 3, 5), snap(9, 0b10010, 4, 2)}
	if l := Drop(three(), 1); !same(l, want) {
		t.Error(l)
	}
}

// P11.2: Drop by hand: the first one, the last one, the only one, none, and of chains that are not valid.
func TestDropByHand(t *testing.T) {
	odd := []api.Snap{{Id: 7, Changed: []byte{1}, Table: pairs(9, 1, 4, 2)}, {Id: 7, Changed: []byte{2, 0, 4}, Table: pairs(5, 3, 4, 4, 5, 5)}, {Id: -1, Table: pairs(0, 1)}}
	for _, x := range []struct {
		l    []api.Snap
		i    int
		want []api.Snap
	}{
		{three(), 0, three()[1:]},
		{three(), 2, []api.Snap{three()[0], snap(4, 0b11110, 2, 0, 3, 5, 4, 2)}},
		{three(), 3, three()}, {three(), 4, three()}, {three(), math.MaxInt, three()}, {three(), -1, three()}, {three(), -3, three()}, {three(), math.MinInt, three()},
		{nil, 0, nil}, {nil, -1, nil}, {[]api.Snap{}, 0, nil}, {three()[:0], 0, nil}, {three()[:1], 0, nil}, {three()[:1], 1, three()[:1]},
		{three()[:2], 0, three()[1:2]}, {three()[:2], 1, []api.Snap{snap(3, 0b01101, 0, 7, 2, 1, 3, 5)}},
		{odd, 0, odd[1:]},
		{odd, 1, []api.Snap{{Id: 7, Changed: []byte{3, 0, 4}, Table: pairs(5, 5, 9, 1, 4, 2)}, odd[2]}},
		{odd, 2, []api.Snap{odd[0], {Id: 7, Changed: []byte{2, 0, 4}, Table: pairs(0, 1, 5, 3, 4, 4, 5, 5)}}},
		{bare(9), 8, bare(8)}, {bare(9), 9, bare(9)},
		{[]api.Snap{{Id: 1}, {Id: 2}}, 1, []api.Snap{{Id: 1}}},
	} {
		if l := Drop(x.l, x.i); !same(l, x.want) {
			t.Errorf("Drop(%v, %d) = %v, want %v", x.l, x.i, l, x.want)
		}
	}
}

// P11.2: Drop of all samples, at each index, held against the document's words.
func TestDrop(t *testing.T) {
	for _, l := range samples() {
		for _, i := range indexes(l) {
			if m := Drop(l, i); !same(m, toldDrop(l, i)) {
				t.Fatalf("Drop(%v, %d) = %v", l, i, m)
			}
		}
	}
}

// P11.2: Cut by hand: the first one, the last one, the only one, none, and of chains that are not valid, whose sets keep their lengths.
func TestCutByHand(t *testing.T) {
	odd := []api.Snap{{Id: 7, Changed: []byte{1}, Table: pairs(9, 1, 4, 2)}, {Id: 7, Changed: []byte{2, 0, 4}, Table: pairs(5, 3, 4, 4, 5, 5)}, {Id: -1, Table: pairs(0, 1)}}
	long := []api.Snap{{Id: 1, Changed: slices.Repeat([]byte{255}, 600)}}
	for _, x := range []struct {
		l    []api.Snap
		i    int
		want []api.Snap
	}{
		{three(), 0, []api.Snap{snap(3, 0)}}, {three(), 1, []api.Snap{three()[0], snap(4, 0)}}, {three(), 2, []api.Snap{three()[0], three()[1], snap(9, 0)}},
		{three(), 3, three()}, {three(), 4, three()}, {three(), math.MaxInt, three()}, {three(), -1, three()}, {three(), -3, three()}, {three(), math.MinInt, three()},
		{nil, 0, nil}, {nil, -1, nil}, {[]api.Snap{}, 0, nil}, {three()[:0], 0, nil}, {three()[:1], 0, []api.Snap{snap(3, 0)}}, {three()[:1], 1, three()[:1]},
		{odd, 0, []api.Snap{snap(7, 0)}}, {odd, 1, []api.Snap{odd[0], {Id: 7, Changed: []byte{0, 0, 0}}}}, {odd, 2, []api.Snap{odd[0], odd[1], {Id: -1}}},
		{bare(9), 8, bare(9)}, {bare(9), 7, bare(8)},
		{long, 0, []api.Snap{{Id: 1, Changed: make([]byte, 600)}}},
	} {
		if l := Cut(x.l, x.i); !same(l, x.want) {
			t.Errorf("Cut(%v, %d) = %v, want %v", x.l, x.i, l, x.want)
		}
	}
}

// P11.2: Cut of all samples, at each index, held against the document's words.
func TestCut(t *testing.T) {
	for _, l := range samples() {
		for _, i := range indexes(l) {
			if m := Cut(l, i); !same(m, toldCut(l, i)) {
				t.Fatalf("Cut(%v, %d) = %v", l, i, m)
			}
		}
	}
}

// sizes are numbers of blocks, each with a size of the area.
func sizes() [][2]int {
	return [][2]int{{0, 0}, {0, 5}, {1, 0}, {1, 1}, {3, 4}, {5, 8}, {8, 20}, {9, 6}, {64, 40}, {64, 200}, {64, 600}, {200, 900}}
}

// P11.3: of valid chains of every length, Drop and Cut at each index, and beyond both ends, are valid.
func TestValidStays(t *testing.T) {
	r := rand.New(rand.NewSource(2))
	for _, size := range sizes() {
		blocks, area := size[0], size[1]
		for n := range api.MaxSnaps + 1 {
			for range 10 {
				l := valid(r, n, blocks, area)
				if !toldGood(l, blocks, area) || !Good(l, blocks, area) {
					t.Fatalf("%v is not good for %d and %d", l, blocks, area)
				}
				for i := -2; i < n+2; i++ {
					for _, m := range [][]api.Snap{Drop(l, i), Cut(l, i)} {
						if !toldGood(m, blocks, area) || !Good(m, blocks, area) {
							t.Fatalf("index %d of %v: %v is not good for %d and %d", i, l, m, blocks, area)
						}
					}
				}
			}
		}
	}
}

// P11.2, P11.3: a valid chain stays one however many snapshots are dropped or cut, one behind the other.
func TestValidStaysToTheEnd(t *testing.T) {
	r := rand.New(rand.NewSource(3))
	for range 300 {
		l := valid(r, api.MaxSnaps, 20, 100)
		for len(l) > 0 {
			i := r.Intn(len(l))
			if r.Intn(4) == 0 {
				l = Cut(l, i)
			} else {
				l = Drop(l, i)
			}
			if !toldGood(l, 20, 100) || !Good(l, 20, 100) {
				t.Fatalf("%v is not good", l)
			}
		}
	}
}

// P11.1, P11.2: what Drop is for: each snapshot that stays has its blocks where it had them, and the one before the dropped one tells of all that changed behind it.
func TestDropKeepsHolders(t *testing.T) {
	r := rand.New(rand.NewSource(4))
	for range 200 {
		l := valid(r, 1+r.Intn(api.MaxSnaps), 20, 100)
		for i, gone := range l {
			m := Drop(l, i)
			if len(m) != len(l)-1 || Index(m, gone.Id) != -1 {
				t.Fatalf("Drop(%v, %d) = %v", l, i, m)
			}
			for k, s := range l {
				if k == i {
					continue
				}
				at := Index(m, s.Id)
				if !slices.Equal(Changed(l, k, len(l)), Changed(m, at, len(m))) {
					t.Fatalf("Drop(%v, %d) = %v: changed behind %d", l, i, m, s.Id)
				}
				for block := range 20 {
					was, had := Holder(l, k, block)
					is, has := Holder(m, at, block)
					if was != is || had != has {
						t.Fatalf("Drop(%v, %d) = %v: block %d of %d", l, i, m, block, s.Id)
					}
				}
			}
		}
	}
}
