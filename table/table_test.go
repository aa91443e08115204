package table

import (
	"math"
	"math/rand"
	"slices"
	"testing"

	"revetment/api"
)

// pairs makes a table of numbers: a Block, its At, the next Block, and so on.
func pairs(l ...int) []api.Pair {
	var out []api.Pair
	for i := 0; i+1 < len(l); i += 2 {
		out = append(out, api.Pair{Block: l[i], At: l[i+1]})
	}
	return out
}

// toldGood follows the document's words: each pair is in the ranges, and each two of them are in order and apart.
func toldGood(l []api.Pair, blocks, area int) bool {
	for i, p := range l {
		if p.Block < 0 || p.Block > blocks-1 || p.At < 0 || p.At > area-1 {
			return false
		}
		for _, q := range l[i+1:] {
			if p.Block >= q.Block || p.At == q.At {
				return false
			}
		}
	}
	return true
}

// first returns the index of the first pair of which is says yes, or -1.
func first(l []api.Pair, is func(p api.Pair) bool) int {
	return slices.IndexFunc(l, is)
}

func toldFind(l []api.Pair, block int) (int, bool) {
	if i := first(l, func(p api.Pair) bool { return p.Block == block }); i >= 0 {
		return l[i].At, true
	}
	return 0, false
}

func toldPut(l []api.Pair, block, at int) []api.Pair {
	p := pairs(block, at)
	if i := first(l, func(p api.Pair) bool { return p.Block == block }); i >= 0 {
		return slices.Concat(l[:i], p, l[i+1:])
	}
	if i := first(l, func(p api.Pair) bool { return p.Block > block }); i >= 0 {
		return slices.Concat(l[:i], p, l[i:])
	}
	return slices.Concat(l, p)
}

// toldMerge first parts b's pairs, then adds those that a does not have.
func toldMerge(a, b []api.Pair) (kept []api.Pair, freed []int) {
	var added []api.Pair
	for _, p := range b {
		if _, ok := toldFind(a, p.Block); ok {
			freed = append(freed, p.At)
		} else {
			added = append(added, p)
		}
	}
	kept = slices.Concat(a)
	for _, p := range added {
		kept = toldPut(kept, p.Block, p.At)
	}
	return kept, freed
}

// each calls f for every table of at most n pairs with the Blocks and Ats given.
func each(n int, blocks, ats []int, f func(l []api.Pair)) {
	var grow func(l []api.Pair)
	grow = func(l []api.Pair) {
		f(slices.Clone(l))
		if len(l) == n {
			return
		}
		for _, block := range blocks {
			for _, at := range ats {
				grow(append(slices.Clone(l), api.Pair{Block: block, At: at}))
			}
		}
	}
	grow(nil)
}

// small are all tables of at most three pairs of three Blocks and three Ats, the good ones of them beside the others.
func small() [][]api.Pair {
	var all [][]api.Pair
	each(3, []int{0, 1, 2}, []int{0, 1, 2}, func(l []api.Pair) { all = append(all, l) })
	return all
}

// far are numbers that lie far beyond every table of these tests.
func far() []int {
	return []int{math.MinInt, math.MinInt + 1, -1 << 32, math.MinInt32, -4097, -64, -2, -1, 1 << 20, math.MaxInt32, 1 << 31, 1 << 32, 1<<32 + 1, 1 << 62, math.MaxInt - 1, math.MaxInt}
}

// good returns a good table of n pairs for so many blocks and such an area, each at least n.
func good(r *rand.Rand, n, blocks, area int) []api.Pair {
	l := make([]api.Pair, n)
	at := r.Perm(area)
	chosen := r.Perm(blocks)[:n]
	slices.Sort(chosen)
	for i, block := range chosen {
		l[i] = api.Pair{Block: block, At: at[i]}
	}
	return l
}

// mixed returns a table of n pairs, their Blocks and Ats less than limit and in no order.
func mixed(r *rand.Rand, n, limit int) []api.Pair {
	l := make([]api.Pair, n)
	for i := range l {
		l[i] = api.Pair{Block: r.Intn(limit), At: r.Intn(limit)}
	}
	return l
}

// samples are tables without a pair, with one, good ones, and ones that are not good in one way or another.
func samples() [][]api.Pair {
	r := rand.New(rand.NewSource(10))
	l := [][]api.Pair{
		nil, {}, pairs(1, 2, 3, 4)[:0],
		pairs(0, 0), pairs(-1, 7), pairs(math.MaxInt, math.MinInt), pairs(math.MinInt, math.MaxInt),
		pairs(1, 10, 5, 50), pairs(5, 50, 1, 10), pairs(4, 1, 4, 2), pairs(4, 1, 4, 1), pairs(2, 6, 4, 6),
		pairs(7, 1, 2, 2, 7, 3), pairs(9, 9, 3, 3, 9, 8, 3, 2, 5, 5), pairs(5, 0, 4, 1, 3, 2, 2, 3, 1, 4),
		pairs(math.MinInt, 0, 0, 1, math.MaxInt, 2), pairs(math.MaxInt, 0, 0, 1, math.MinInt, 2),
	}
	for _, n := range []int{2, 3, 7, 8, 9, 33, 64} {
		l = append(l, good(r, n, 64, 200), mixed(r, n, 10), mixed(r, n, 64))
	}
	return l
}

// about are Blocks that a table has, those beside them, and those that are far.
func about(l []api.Pair) []int {
	out := append(far(), 0, 1)
	for _, p := range l {
		out = append(out, p.Block)
		if p.Block > math.MinInt {
			out = append(out, p.Block-1)
		}
		if p.Block < math.MaxInt {
			out = append(out, p.Block+1)
		}
	}
	slices.Sort(out)
	return slices.Compact(out)
}

// whole returns all of a slice's memory.
func whole[T any](l []T) []T {
	return l[:cap(l)]
}

// spare returns a copy of l with spare capacity that is filled.
func spare(l []api.Pair) []api.Pair {
	c := slices.Concat(l, slices.Repeat(pairs(-77, -78), 9))
	return c[:len(l)]
}

// spoil changes every pair of a table.
func spoil(l []api.Pair) {
	for i := range l {
		l[i] = api.Pair{Block: l[i].Block ^ 0x55, At: l[i].At ^ 0x33}
	}
}

// P10.1: tables by hand, for 10 blocks and an area of 6: the edges of both ranges, and Blocks and Ats in each relation.
func TestGoodByHand(t *testing.T) {
	for _, x := range []struct {
		l    []api.Pair
		good bool
	}{
		{nil, true},
		{[]api.Pair{}, true},
		{pairs(0, 0), true},
		{pairs(9, 5), true},
		{pairs(0, 5), true},
		{pairs(9, 0), true},
		{pairs(-1, 0), false},
		{pairs(10, 0), false},
		{pairs(11, 0), false},
		{pairs(0, -1), false},
		{pairs(0, 6), false},
		{pairs(0, 7), false},
		{pairs(9, 6), false},
		{pairs(10, 5), false},
		{pairs(math.MinInt, 0), false},
		{pairs(math.MaxInt, 0), false},
		{pairs(0, math.MinInt), false},
		{pairs(0, math.MaxInt), false},
		{pairs(1<<32, 0), false},
		{pairs(0, 1<<32), false},
		{pairs(0, 5, 3, 4, 9, 0), true},
		{pairs(0, 0, 1, 1), true},
		{pairs(0, 1, 1, 0), true},
		{pairs(0, 3, 1, 5, 2, 4, 3, 0, 4, 2, 9, 1), true},
		{pairs(3, 0, 3, 1), false},
		{pairs(3, 0, 3, 0), false},
		{pairs(4, 0, 3, 1), false},
		{pairs(1, 0, 2, 1, 2, 2), false},
		{pairs(1, 0, 2, 1, 1, 2), false},
		{pairs(0, 0, 5, 1, 3, 2, 9, 3), false},
		{pairs(-1, 0, 0, 1), false},
		{pairs(0, 1, 10, 0), false},
		{pairs(8, 1, 9, 6), false},
		{pairs(0, -1, 1, 0), false},
		{pairs(3, 5, 4, 5), false},
		{pairs(0, 2, 1, 3, 2, 4, 3, 2), false},
		{pairs(0, 2, 1, 3, 2, 3, 3, 4), false},
		{pairs(0, 5, 4, 1, 9, 5), false},
		{pairs(0, 0, 4, 1, 9, 0), false},
		{pairs(0, 0, 1, 1, 2, 2, 3, 3, 4, 4, 5, 5, 6, 0), false},
	} {
		if Good(x.l, 10, 6) != x.good {
			t.Errorf("Good(%v, 10, 6) is %v", x.l, !x.good)
		}
	}
}

// P10.1: every table of at most three pairs, of Blocks and Ats from below 0 to above both ranges, for every small range, 0 and negative ones too.
func TestGoodOfEachSmall(t *testing.T) {
	count := 0
	each(3, []int{-1, 0, 1, 2}, []int{-1, 0, 1, 2}, func(l []api.Pair) {
		for blocks := -2; blocks < 4; blocks++ {
			for area := -2; area < 4; area++ {
				want := toldGood(l, blocks, area)
				if want && len(l) > 0 {
					count++
				}
				if Good(l, blocks, area) != want {
					t.Fatalf("Good(%v, %d, %d) is %v", l, blocks, area, !want)
				}
			}
		}
	})
	if count == 0 {
		t.Error("no table was good")
	}
}

// P10.1: of a table with blocks or an area of 0 or less nothing is good, but the empty table always is.
func TestGoodOfNone(t *testing.T) {
	for _, n := range []int{0, -1, -2, -64, math.MinInt32, math.MinInt, math.MinInt + 1} {
		for _, p := range [][]api.Pair{pairs(0, 0), pairs(-1, -1), pairs(n, n), pairs(1, 2), pairs(math.MinInt, math.MinInt)} {
			if Good(p, n, 6) || Good(p, 10, n) || Good(p, n, n) || Good(p, n, math.MaxInt) || Good(p, math.MaxInt, n) {
				t.Errorf("%v is good for %d", p, n)
			}
		}
		for _, m := range append(far(), 0, 1, 10) {
			if !Good(nil, n, m) || !Good(nil, m, n) || !Good([]api.Pair{}, n, m) || !Good([]api.Pair{}, m, n) {
				t.Errorf("the empty table is not good for %d and %d", n, m)
			}
		}
	}
}

// P10.1: one pair at the edges of ranges of every size.
func TestGoodRanges(t *testing.T) {
	for _, n := range []int{1, 2, 64, 200, 1 << 16, math.MaxInt32, math.MaxInt - 1, math.MaxInt} {
		for _, i := range []int{math.MinInt, -n, -1, 0, 1, n - 2, n - 1, n, math.MaxInt - 1, math.MaxInt} {
			want := i >= 0 && i < n
			if Good(pairs(i, 0), n, 1) != want || Good(pairs(0, i), 1, n) != want || Good(pairs(i, i), n, n) != want {
				t.Errorf("%d of %d: good is %v", i, n, !want)
			}
		}
	}
}

// P10.1: good tables, and what becomes of them when one pair changes or comes again.
func TestGoodOfOneFault(t *testing.T) {
	r := rand.New(rand.NewSource(1))
	for _, n := range []int{1, 2, 5, 64} {
		l := good(r, n, 64, 200)
		if !Good(l, 64, 200) {
			t.Fatalf("%v is not good", l)
		}
		for i := range l {
			for _, x := range append(far(), 0, 63, 64, 199, 200) {
				b, a := slices.Clone(l), slices.Clone(l)
				b[i].Block, a[i].At = x, x
				if Good(b, 64, 200) != toldGood(b, 64, 200) || Good(a, 64, 200) != toldGood(a, 64, 200) {
					t.Errorf("%d at %d of %v", x, i, l)
				}
			}
			for k := range l {
				c := slices.Clone(l)
				c[i].At = l[k].At
				if Good(c, 64, 200) != (i == k) {
					t.Errorf("pair %d of %v has the At of pair %d: good is %v", i, l, k, i != k)
				}
				c = slices.Clone(l)
				c[i].Block = l[k].Block
				if Good(c, 64, 200) != (i == k) {
					t.Errorf("pair %d of %v has the Block of pair %d: good is %v", i, l, k, i != k)
				}
				c = slices.Clone(l)
				c[i].Block, c[k].Block = l[k].Block, l[i].Block
				if Good(c, 64, 200) != (i == k) {
					t.Errorf("the Blocks %d and %d of %v are changed: good is %v", i, k, l, i != k)
				}
			}
		}
	}
}

// P10.1: a long table, its Ats apart but for two that are far apart, in an area that nothing could be kept for place by place.
func TestGoodOfLong(t *testing.T) {
	l := make([]api.Pair, 200000)
	for i := range l {
		l[i] = api.Pair{Block: i * 3, At: math.MaxInt - 1 - i*7919}
	}
	if !Good(l, math.MaxInt, math.MaxInt) || Good(l, math.MaxInt, math.MaxInt-1) || Good(l, len(l)*3-3, math.MaxInt) || !Good(l, len(l)*3-2, math.MaxInt) {
		t.Error("the ends")
	}
	l[len(l)-1].At = l[0].At
	if Good(l, math.MaxInt, math.MaxInt) {
		t.Error("the first At and the last one are equal")
	}
}

// P10.1: Find by hand: no pair, one, a Block that is less than all, between two, greater than all, and one that occurs more than once.
func TestFindByHand(t *testing.T) {
	for _, x := range []struct {
		l         []api.Pair
		block, at int
		ok        bool
	}{
		{nil, 0, 0, false},
		{[]api.Pair{}, 0, 0, false},
		{pairs(1, 2, 3, 4)[:0], 1, 0, false},
		{pairs(4, 9), 4, 9, true},
		{pairs(4, 9), 3, 0, false},
		{pairs(4, 9), 5, 0, false},
		{pairs(0, 0), 0, 0, true},
		{pairs(1, 10, 5, 50), 1, 10, true},
		{pairs(1, 10, 5, 50), 5, 50, true},
		{pairs(1, 10, 5, 50), 0, 0, false},
		{pairs(1, 10, 5, 50), 3, 0, false},
		{pairs(1, 10, 5, 50), 9, 0, false},
		{pairs(7, 1, 7, 3), 7, 1, true},
		{pairs(7, 3, 7, 1), 7, 3, true},
		{pairs(7, 0, 2, 2, 7, 3), 7, 0, true},
		{pairs(9, 1, 2, 2, 7, 3, 2, 4), 2, 2, true},
		{pairs(9, 1, 2, 2, 7, 3, 2, 4), 7, 3, true},
		{pairs(9, 1, 2, 2, 7, 3, 2, 4), 5, 0, false},
		{pairs(-5, -6), -5, -6, true},
		{pairs(-5, -6), 5, 0, false},
		{pairs(math.MaxInt, math.MinInt), math.MaxInt, math.MinInt, true},
		{pairs(math.MinInt, math.MaxInt), math.MinInt, math.MaxInt, true},
		{pairs(math.MinInt, math.MaxInt), math.MaxInt, 0, false},
	} {
		if at, ok := Find(x.l, x.block); at != x.at || ok != x.ok {
			t.Errorf("Find(%v, %d) = %d, %v", x.l, x.block, at, ok)
		}
	}
}

// P10.1: Find in every small table and in all samples, held against the document's words.
func TestFind(t *testing.T) {
	for _, l := range append(small(), samples()...) {
		for _, block := range about(l) {
			at, ok := Find(l, block)
			if wantAt, want := toldFind(l, block); at != wantAt || ok != want {
				t.Errorf("Find(%v, %d) = %d, %v", l, block, at, ok)
			}
		}
	}
}

// P10.2: the chapter's example.
func TestExample(t *testing.T) {
	if l := Put(pairs(1, 10, 5, 50), 3, 30); !slices.Equal(l, pairs(1, 10, 3, 30, 5, 50)) {
		t.Error(l)
	}
}

// P10.2: Put by hand: into no pair and one, ahead, between, behind, in the place of another, and into tables that are not good.
func TestPutByHand(t *testing.T) {
	for _, x := range []struct {
		l         []api.Pair
		block, at int
		want      []api.Pair
	}{
		{nil, 4, 5, pairs(4, 5)},
		{[]api.Pair{}, 4, 5, pairs(4, 5)},
		{nil, -4, -5, pairs(-4, -5)},
		{pairs(4, 5), 4, 6, pairs(4, 6)},
		{pairs(4, 5), 4, 5, pairs(4, 5)},
		{pairs(4, 5), 3, 6, pairs(3, 6, 4, 5)},
		{pairs(4, 5), 5, 6, pairs(4, 5, 5, 6)},
		{pairs(1, 10, 5, 50), 0, 7, pairs(0, 7, 1, 10, 5, 50)},
		{pairs(1, 10, 5, 50), 2, 7, pairs(1, 10, 2, 7, 5, 50)},
		{pairs(1, 10, 5, 50), 4, 7, pairs(1, 10, 4, 7, 5, 50)},
		{pairs(1, 10, 5, 50), 6, 7, pairs(1, 10, 5, 50, 6, 7)},
		{pairs(1, 10, 5, 50), 1, 7, pairs(1, 7, 5, 50)},
		{pairs(1, 10, 5, 50), 5, 7, pairs(1, 10, 5, 7)},
		{pairs(1, 10, 5, 50), 3, 10, pairs(1, 10, 3, 10, 5, 50)},
		{pairs(1, 10, 5, 50), -3, -2, pairs(-3, -2, 1, 10, 5, 50)},
		{pairs(1, 10, 5, 50), math.MinInt, 7, pairs(math.MinInt, 7, 1, 10, 5, 50)},
		{pairs(1, 10, 5, 50), math.MaxInt, 7, pairs(1, 10, 5, 50, math.MaxInt, 7)},
		{pairs(math.MinInt, 0, math.MaxInt, 1), 0, 2, pairs(math.MinInt, 0, 0, 2, math.MaxInt, 1)},
		{pairs(math.MinInt, 0, math.MaxInt, 1), math.MaxInt, 2, pairs(math.MinInt, 0, math.MaxInt, 2)},
		{pairs(math.MinInt, 0, math.MaxInt, 1), math.MinInt, 2, pairs(math.MinInt, 2, math.MaxInt, 1)},
		{pairs(7, 1, 7, 3), 7, 9, pairs(7, 9, 7, 3)},
		{pairs(7, 1, 2, 2, 7, 3), 7, 9, pairs(7, 9, 2, 2, 7, 3)},
		{pairs(7, 1, 2, 2, 7, 3), 2, 9, pairs(7, 1, 2, 9, 7, 3)},
		{pairs(8, 1, 9, 2, 3, 3), 3, 9, pairs(8, 1, 9, 2, 3, 9)},
		{pairs(7, 1, 2, 2, 8, 3), 4, 9, pairs(4, 9, 7, 1, 2, 2, 8, 3)},
		{pairs(2, 1, 1, 2, 8, 3, 1, 4, 9, 5), 4, 9, pairs(2, 1, 1, 2, 4, 9, 8, 3, 1, 4, 9, 5)},
		{pairs(5, 1, 4, 2, 3, 3), 6, 9, pairs(5, 1, 4, 2, 3, 3, 6, 9)},
		{pairs(5, 1, 5, 2), 4, 9, pairs(4, 9, 5, 1, 5, 2)},
		{pairs(5, 1, 5, 2), 6, 9, pairs(5, 1, 5, 2, 6, 9)},
	} {
		if l := Put(x.l, x.block, x.at); !slices.Equal(l, x.want) {
			t.Errorf("Put(%v, %d, %d) = %v, want %v", x.l, x.block, x.at, l, x.want)
		}
	}
}

// P10.2: Put into every small table and into all samples, held against the document's words; what was put is found then, and all else as before.
func TestPut(t *testing.T) {
	for _, l := range append(small(), samples()...) {
		for _, block := range about(l) {
			for _, at := range []int{5, -1, math.MaxInt} {
				m := Put(l, block, at)
				if !slices.Equal(m, toldPut(l, block, at)) {
					t.Fatalf("Put(%v, %d, %d) = %v", l, block, at, m)
				}
				if got, ok := Find(m, block); got != at || !ok {
					t.Fatalf("Put(%v, %d, %d) = %v: Find is %d, %v", l, block, at, m, got, ok)
				}
			}
		}
	}
}

// P10.1, P10.2: a table put together in any order of its pairs is the same good one.
func TestPutInAnyOrder(t *testing.T) {
	r := rand.New(rand.NewSource(2))
	for _, n := range []int{1, 2, 3, 10, 64} {
		l := good(r, n, 64, 200)
		for range 20 {
			var m []api.Pair
			for _, i := range r.Perm(n) {
				m = Put(m, l[i].Block, l[i].At)
				if !Good(m, 64, 200) {
					t.Fatalf("%v is not good", m)
				}
			}
			if !slices.Equal(m, l) {
				t.Fatalf("%v, want %v", m, l)
			}
		}
	}
}

// P10.2: Merge by hand: tables of no pairs, tables that share no Block, some and all, tables that are not good, and Blocks that occur more than once in either.
func TestMergeByHand(t *testing.T) {
	for _, x := range []struct {
		a, b, kept []api.Pair
		freed      []int
	}{
		{nil, nil, nil, nil},
		{[]api.Pair{}, []api.Pair{}, nil, nil},
		{pairs(1, 1), nil, pairs(1, 1), nil},
		{nil, pairs(1, 1), pairs(1, 1), nil},
		{pairs(1, 1), pairs(1, 2), pairs(1, 1), []int{2}},
		{pairs(1, 1), pairs(1, 1), pairs(1, 1), []int{1}},
		{pairs(1, 1), pairs(0, 2), pairs(0, 2, 1, 1), nil},
		{pairs(1, 1), pairs(2, 2), pairs(1, 1, 2, 2), nil},
		{pairs(1, 10, 5, 50), pairs(0, 1, 3, 3, 9, 5), pairs(0, 1, 1, 10, 3, 3, 5, 50, 9, 5), nil},
		{pairs(1, 10, 5, 50), pairs(0, 1, 1, 2, 3, 3, 5, 4, 9, 5), pairs(0, 1, 1, 10, 3, 3, 5, 50, 9, 5), []int{2, 4}},
		{pairs(1, 10, 5, 50), pairs(1, 7, 5, 3), pairs(1, 10, 5, 50), []int{7, 3}},
		{pairs(1, 10, 5, 50), pairs(5, 3), pairs(1, 10, 5, 50), []int{3}},
		{pairs(1, 10), pairs(1, 7, 5, 3), pairs(1, 10, 5, 3), []int{7}},
		{nil, pairs(5, 5, 2, 2), pairs(2, 2, 5, 5), nil},
		{nil, pairs(5, 1, 5, 2, 5, 3), pairs(5, 3), nil},
		{pairs(1, 10), pairs(3, 1, 3, 2), pairs(1, 10, 3, 2), nil},
		{pairs(1, 10), pairs(3, 1, 1, 7, 3, 2, 1, 8), pairs(1, 10, 3, 2), []int{7, 8}},
		{pairs(1, 10), pairs(1, 8, 1, 8, 1, 7), pairs(1, 10), []int{8, 8, 7}},
		{pairs(9, 1, 4, 2), pairs(5, 3, 4, 4, 10, 5), pairs(5, 3, 9, 1, 4, 2, 10, 5), []int{4}},
		{pairs(9, 1, 9, 2), pairs(9, 3, 8, 4), pairs(8, 4, 9, 1, 9, 2), []int{3}},
		{pairs(5, 1, 3, 2), pairs(4, 3, 2, 4), pairs(2, 4, 4, 3, 5, 1, 3, 2), nil},
		{pairs(5, 1, 3, 2), pairs(6, 3, 7, 4, 6, 5), pairs(5, 1, 3, 2, 6, 5, 7, 4), nil},
		{pairs(-1, -2), pairs(-3, -4, -1, -5, math.MinInt, 1, math.MaxInt, 2), pairs(math.MinInt, 1, -3, -4, -1, -2, math.MaxInt, 2), []int{-5}},
	} {
		kept, freed := Merge(x.a, x.b)
		if !slices.Equal(kept, x.kept) || !slices.Equal(freed, x.freed) {
			t.Errorf("Merge(%v, %v) = %v, %v, want %v, %v", x.a, x.b, kept, freed, x.kept, x.freed)
		}
	}
}

// P10.2, P10.3: Merge of every two small tables, held against the document's words; two good ones that are apart yield a good one.
func TestMergeOfEachTwoSmall(t *testing.T) {
	all := small()
	merged := 0
	for _, a := range all {
		for _, b := range all {
			kept, freed := Merge(a, b)
			wantKept, wantFreed := toldMerge(a, b)
			if !slices.Equal(kept, wantKept) || !slices.Equal(freed, wantFreed) {
				t.Fatalf("Merge(%v, %v) = %v, %v, want %v, %v", a, b, kept, freed, wantKept, wantFreed)
			}
			if toldGood(a, 3, 3) && toldGood(b, 3, 3) && apart(a, b) {
				merged++
				if !toldGood(kept, 3, 3) || !Good(kept, 3, 3) {
					t.Fatalf("Merge(%v, %v) = %v is not good", a, b, kept)
				}
			}
		}
	}
	if merged < 100 {
		t.Errorf("only %d times two good tables", merged)
	}
}

// apart reports whether no At occurs in both tables.
func apart(a, b []api.Pair) bool {
	for _, p := range a {
		for _, q := range b {
			if p.At == q.At {
				return false
			}
		}
	}
	return true
}

// P10.2: Merge of all samples, held against the document's words.
func TestMerge(t *testing.T) {
	for _, a := range samples() {
		for _, b := range samples() {
			kept, freed := Merge(a, b)
			wantKept, wantFreed := toldMerge(a, b)
			if !slices.Equal(kept, wantKept) || !slices.Equal(freed, wantFreed) {
				t.Errorf("Merge(%v, %v) = %v, %v, want %v, %v", a, b, kept, freed, wantKept, wantFreed)
			}
		}
	}
}

// P10.2: long tables that are not good.
func TestMergeOfLong(t *testing.T) {
	r := rand.New(rand.NewSource(3))
	a, b := mixed(r, 2000, 4000), mixed(r, 3000, 4000)
	kept, freed := Merge(a, b)
	wantKept, wantFreed := toldMerge(a, b)
	if !slices.Equal(kept, wantKept) || !slices.Equal(freed, wantFreed) {
		t.Error("differs")
	}
}

// P10.3: two good tables that are apart yield a good one with every Block of either; each At is kept or freed, and none twice.
func TestMergeOfGood(t *testing.T) {
	r := rand.New(rand.NewSource(4))
	for range 2000 {
		n, m := r.Intn(65), r.Intn(65)
		both := r.Perm(200)
		a, b := good(r, n, 64, 200), good(r, m, 64, 200)
		for i := range a {
			a[i].At = both[i]
		}
		for i := range b {
			b[i].At = both[n+i]
		}
		kept, freed := Merge(a, b)
		if !Good(kept, 64, 200) || !toldGood(kept, 64, 200) {
			t.Fatalf("Merge(%v, %v) = %v is not good", a, b, kept)
		}
		for _, p := range a {
			if at, ok := toldFind(kept, p.Block); at != p.At || !ok {
				t.Fatalf("Merge(%v, %v) = %v: Block %d", a, b, kept, p.Block)
			}
		}
		used := slices.Clone(freed)
		for _, p := range kept {
			used = append(used, p.At)
		}
		want := slices.Clone(both[:n+m])
		slices.Sort(used)
		slices.Sort(want)
		if !slices.Equal(used, want) {
			t.Fatalf("Merge(%v, %v) = %v, %v: the Ats are %v", a, b, kept, freed, used)
		}
	}
}

// P10.3 says nothing of tables that have an At in common: kept then has it twice, and is not good.
func TestMergeOfTwoThatAreNotApart(t *testing.T) {
	kept, freed := Merge(pairs(1, 4), pairs(2, 4))
	if !slices.Equal(kept, pairs(1, 4, 2, 4)) || len(freed) != 0 || Good(kept, 10, 10) {
		t.Error(kept, freed)
	}
}

// No function changes a table that it is given, nor what is behind its end, and what is behind its end is no part of it.
func TestArgumentsStay(t *testing.T) {
	for _, was := range samples() {
		l, m := spare(was), spare(pairs(8, 80, 3, 30, 6, 60))
		wholeL, wholeM := slices.Clone(whole(l)), slices.Clone(whole(m))
		for _, block := range append(about(was), -77) {
			at, ok := Find(l, block)
			if wantAt, want := Find(was, block); at != wantAt || ok != want {
				t.Errorf("%v: Find(%d)", was, block)
			}
			if !slices.Equal(Put(l, block, 9), Put(was, block, 9)) {
				t.Errorf("%v: Put(%d)", was, block)
			}
		}
		for _, n := range []int{-1, 0, 10, 64, 200, math.MaxInt} {
			if Good(l, n, n) != Good(was, n, n) {
				t.Errorf("%v: Good(%d)", was, n)
			}
		}
		Merge(l, m)
		Merge(m, l)
		Merge(l, l)
		Merge(l, nil)
		Merge(nil, l)
		if !slices.Equal(whole(l), wholeL) || !slices.Equal(whole(m), wholeM) {
			t.Errorf("%v: changed", was)
		}
	}
}

// What Put and Merge return shares nothing with what they are given, in either direction, spare capacity included, nor with what another call returns.
func TestResultsShareNothing(t *testing.T) {
	other := pairs(8, 80, 3, 30, 6, 60)
	for _, was := range samples() {
		calls := []func(l []api.Pair) []api.Pair{}
		for _, block := range append(about(was), -77) {
			calls = append(calls, func(l []api.Pair) []api.Pair { return Put(l, block, 9) })
		}
		for _, b := range [][]api.Pair{nil, other, pairs(1, 2)[:0]} {
			calls = append(calls,
				func(l []api.Pair) []api.Pair { kept, _ := Merge(l, b); return kept },
				func(l []api.Pair) []api.Pair { kept, _ := Merge(b, l); return kept },
				func(l []api.Pair) []api.Pair { kept, _ := Merge(l, l); return kept })
		}
		for k, call := range calls {
			l := spare(was)
			before := slices.Clone(whole(l))
			spoil(whole(call(l)))
			if !slices.Equal(whole(l), before) {
				t.Fatalf("%v, call %d: the result is the argument's", was, k)
			}
			m, again := call(l), call(l)
			kept := slices.Clone(whole(m))
			spoil(whole(again))
			spoil(whole(l))
			if !slices.Equal(whole(m), kept) {
				t.Fatalf("%v, call %d: the result changes", was, k)
			}
		}
	}
}

// What Merge frees is the caller's, its spare capacity too: a later call has none of it.
func TestFreedIsNew(t *testing.T) {
	a, b := pairs(1, 10, 5, 50, 6, 60), pairs(1, 7, 3, 4, 5, 3, 6, 2)
	_, freed := Merge(a, b)
	_, again := Merge(a, b)
	for i := range whole(again) {
		whole(again)[i] = -5
	}
	spoil(b)
	if !slices.Equal(freed, []int{7, 3, 2}) {
		t.Error(freed)
	}
}

// What is answered does not depend on the calls before.
func TestCallsAreApart(t *testing.T) {
	for _, before := range samples() {
		Put(before, 3, 4)
		Merge(before, pairs(4, 5, 2, 1))
		Good(before, 10, 10)
		kept, freed := Merge(pairs(1, 10, 5, 50), pairs(5, 3, 4, 2))
		if !slices.Equal(kept, pairs(1, 10, 4, 2, 5, 50)) || !slices.Equal(freed, []int{3}) {
			t.Errorf("behind %v: %v, %v", before, kept, freed)
		}
		if l := Put(nil, 3, 4); !slices.Equal(l, pairs(3, 4)) {
			t.Errorf("behind %v: %v", before, l)
		}
	}
}
