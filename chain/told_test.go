package chain

import (
	"math"
	"math/rand"
	"slices"

	"revetment/api"
)

// pairs makes a table of numbers: a Block, its At, the next Block, and so on.
func pairs(l ...int) []api.Pair {
	var out []api.Pair
	for i := 0; i+1 < len(l); i += 2 {
		out = append(out, api.Pair{Block: l[i], At: l[i+1]})
	}
	return out
}

// snap makes a snapshot; its Changed has one byte.
func snap(id int, changed byte, l ...int) api.Snap {
	return api.Snap{Id: id, Changed: []byte{changed}, Table: pairs(l...)}
}

// three is valid for 5 blocks and an area of 8: the first one holds 0 and 2, the second one 2 and 3; behind the third one 1 and 4 changed, and it holds 4.
func three() []api.Snap {
	return []api.Snap{snap(3, 0b00101, 0, 7, 2, 1), snap(4, 0b01100, 2, 0, 3, 5), snap(9, 0b10010, 4, 2)}
}

// bare makes so many snapshots with nothing in them, of 5 blocks and with the Ids from 1 on.
func bare(n int) []api.Snap {
	l := make([]api.Snap, n)
	for i := range l {
		l[i] = snap(i+1, 0)
	}
	return l
}

// same reports whether two chains are equal in everything.
func same(a, b []api.Snap) bool {
	return slices.EqualFunc(a, b, func(x, y api.Snap) bool {
		return x.Id == y.Id && slices.Equal(x.Changed, y.Changed) && slices.Equal(x.Table, y.Table)
	})
}

// anew returns s in memory of its own.
func anew(s api.Snap) api.Snap {
	return api.Snap{Id: s.Id, Changed: slices.Concat(s.Changed), Table: slices.Concat(s.Table)}
}

// allNew returns l in memory of its own.
func allNew(l []api.Snap) []api.Snap {
	out := make([]api.Snap, len(l))
	for i, s := range l {
		out[i] = anew(s)
	}
	return out
}

// contains reports whether the set b has the number i, by the words of layer 9.
func contains(b []byte, i int) bool {
	return i >= 0 && i < len(b)*8 && b[i/8]>>(i%8)%2 == 1
}

// place returns the At of the first pair with this Block.
func place(l []api.Pair, block int) (int, bool) {
	for _, p := range l {
		if p.Block == block {
			return p.At, true
		}
	}
	return 0, false
}

// toldGoodSet follows layer 9: the bytes of New(n), and no number that is at least n.
func toldGoodSet(b []byte, n int) bool {
	size := 0
	if n >= 1 && n <= 4096 {
		size = (n + 7) / 8
	}
	if len(b) != size {
		return false
	}
	for i := max(n, 0); i < len(b)*8; i++ {
		if contains(b, i) {
			return false
		}
	}
	return true
}

// toldGoodTable follows layer 10: each pair is in the ranges, and each two of them are in order and apart.
func toldGoodTable(l []api.Pair, blocks, area int) bool {
	for i, p := range l {
		if p.Block < 0 || p.Block >= blocks || p.At < 0 || p.At >= area {
			return false
		}
		for _, q := range l[i+1:] {
			if p.Block >= q.Block || p.At == q.At {
				return false
			}
		}
	}
	return true
}

// common reports whether an At occurs in both tables.
func common(a, b []api.Pair) bool {
	for _, p := range a {
		for _, q := range b {
			if p.At == q.At {
				return true
			}
		}
	}
	return false
}

// toldGoodSnap follows what the document says of one snapshot.
func toldGoodSnap(s api.Snap, last bool, blocks, area int) bool {
	if s.Id < 1 || s.Id > 1000000 || !toldGoodSet(s.Changed, blocks) || !toldGoodTable(s.Table, blocks, area) {
		return false
	}
	for _, p := range s.Table {
		if !contains(s.Changed, p.Block) {
			return false
		}
	}
	for i := range len(s.Changed) * 8 {
		if _, held := place(s.Table, i); contains(s.Changed, i) && !held && !last {
			return false
		}
	}
	return true
}

// toldGood follows the document's words: each snapshot by itself, and each two of them.
func toldGood(l []api.Snap, blocks, area int) bool {
	if len(l) > 8 {
		return false
	}
	for i, s := range l {
		if !toldGoodSnap(s, i == len(l)-1, blocks, area) {
			return false
		}
		for _, later := range l[i+1:] {
			if s.Id >= later.Id || common(s.Table, later.Table) {
				return false
			}
		}
	}
	return true
}

func toldIndex(l []api.Snap, id int) int {
	return slices.IndexFunc(l, func(s api.Snap) bool { return s.Id == id })
}

// toldHolder looks at every snapshot, from the last one on, so that the first one that has the block stays.
func toldHolder(l []api.Snap, i, block int) (at int, ok bool) {
	for k := len(l) - 1; k >= 0; k-- {
		if found, has := place(l[k].Table, block); has && k >= i && i >= 0 {
			at, ok = found, true
		}
	}
	return at, ok
}

// joint returns the numbers that either set contains, one by one, with as many bytes as the longer set.
func joint(a, b []byte) []byte {
	out := make([]byte, max(len(a), len(b)))
	for i := range len(out) * 8 {
		if contains(a, i) || contains(b, i) {
			out[i/8] += 1 << (i % 8)
		}
	}
	return out
}

func toldChanged(l []api.Snap, i, j int) []byte {
	var out []byte
	for k := len(l) - 1; k >= 0; k-- {
		if k >= i && k < j {
			out = joint(l[k].Changed, out)
		}
	}
	return out
}

// toldPut follows layer 10's words.
func toldPut(l []api.Pair, p api.Pair) []api.Pair {
	one := []api.Pair{p}
	if i := slices.IndexFunc(l, func(q api.Pair) bool { return q.Block == p.Block }); i >= 0 {
		return slices.Concat(l[:i], one, l[i+1:])
	}
	if i := slices.IndexFunc(l, func(q api.Pair) bool { return q.Block > p.Block }); i >= 0 {
		return slices.Concat(l[:i], one, l[i:])
	}
	return slices.Concat(l, one)
}

// toldKept is the first result of layer 10's Merge.
func toldKept(a, b []api.Pair) []api.Pair {
	kept := slices.Concat(a)
	for _, p := range b {
		if _, has := place(a, p.Block); !has {
			kept = toldPut(kept, p)
		}
	}
	return kept
}

func toldDrop(l []api.Snap, i int) []api.Snap {
	l = allNew(l)
	if i < 0 || i >= len(l) {
		return l
	}
	if i > 0 {
		l[i-1].Changed = joint(l[i-1].Changed, l[i].Changed)
		l[i-1].Table = toldKept(l[i-1].Table, l[i].Table)
	}
	return slices.Delete(l, i, i+1)
}

func toldCut(l []api.Snap, i int) []api.Snap {
	l = allNew(l)
	if i < 0 || i >= len(l) {
		return l
	}
	l = l[:i+1]
	for k := range l[i].Changed {
		l[i].Changed[k] = 0
	}
	l[i].Table = nil
	return l
}

// valid returns a valid chain of n snapshots, for so many blocks and such an area, with as many blocks in the area as luck and room allow.
func valid(r *rand.Rand, n, blocks, area int) []api.Snap {
	l := make([]api.Snap, n)
	free := r.Perm(area)
	id := 0
	for i := range l {
		id += 1 + r.Intn(1+r.Intn(1000000/8))
		l[i].Id = id
		l[i].Changed = make([]byte, (blocks+7)/8)
		often := r.Intn(4)
		for block := range blocks {
			changed := r.Intn(4) < often
			held := changed && len(free) > 0 && (i < n-1 || r.Intn(2) == 0)
			if held {
				l[i].Table = append(l[i].Table, api.Pair{Block: block, At: free[0]})
				free = free[1:]
			}
			if held || changed && i == n-1 {
				l[i].Changed[block/8] |= 1 << (block % 8)
			}
		}
	}
	return l
}

// mixed returns n snapshots that are in no order, their sets of any length and their tables of any pairs.
func mixed(r *rand.Rand, n int) []api.Snap {
	l := make([]api.Snap, n)
	for i := range l {
		l[i].Id = r.Intn(2*n+1) - 1
		l[i].Changed = make([]byte, r.Intn(5))
		r.Read(l[i].Changed)
		for range r.Intn(12) {
			l[i].Table = append(l[i].Table, api.Pair{Block: r.Intn(12) - 1, At: r.Intn(20) - 1})
		}
	}
	return l
}

// samples are chains of no snapshots, of one, of two, of MaxSnaps and of more, valid ones, and ones that are not valid in one way or another.
func samples() [][]api.Snap {
	r := rand.New(rand.NewSource(11))
	same := []byte{3, 0}
	out := [][]api.Snap{
		nil, {}, three()[:0], three()[:1], three()[:2], three(), three()[1:], three()[2:],
		{{}}, {{}, {}}, {{}, {}, {}},
		{{Id: 1}, {Id: 2, Changed: []byte{255, 255, 255}, Table: pairs(9, 9, 3, 3)}, {Id: 3, Changed: []byte{8}}},
		{{Id: 5, Changed: same, Table: pairs(0, 1)}, {Id: 5, Changed: same, Table: pairs(1, 1)}, {Id: 5, Changed: same}},
		{snap(9, 1, 0, 0), snap(4, 2, 1, 0), snap(-3, 7, 2, 0, 1, 1, 0, 2)},
		{snap(1, 255, 5, 1, 5, 2, 3, 3), snap(1, 0, 5, 4, 4, 5, 4, 6, 2, 7), snap(2, 16, 7, 7, 2, 8, 7, 9)},
		{snap(math.MinInt, 1, math.MinInt, math.MaxInt), snap(math.MaxInt, 1, math.MaxInt, math.MinInt, 0, -1)},
		bare(api.MaxSnaps), bare(api.MaxSnaps + 1), bare(30),
	}
	for _, n := range []int{1, 2, 3, 5, api.MaxSnaps} {
		out = append(out, valid(r, n, 5, 8), valid(r, n, 64, 200), valid(r, n, 9, 4), mixed(r, n))
	}
	return append(out, mixed(r, api.MaxSnaps+1), mixed(r, 20), valid(r, api.MaxSnaps+1, 12, 60))
}

// far are numbers that lie far beyond every chain of these tests.
func far() []int {
	return []int{math.MinInt, math.MinInt + 1, -1 << 32, math.MinInt32, -1000000, -64, -2, -1, 1 << 20, math.MaxInt32, 1 << 31, 1 << 32, 1<<32 + 1, 1 << 62, math.MaxInt - 1, math.MaxInt}
}

// indexes are all indexes of l, those just beyond its ends, and those that are far.
func indexes(l []api.Snap) []int {
	out := far()
	for i := -3; i <= len(l)+3; i++ {
		out = append(out, i)
	}
	return out
}

// spread returns values that l has, with those beside them, and those that are far.
func spread(values []int) []int {
	out := append(far(), 0, 1)
	for _, v := range values {
		out = append(out, v)
		if v > math.MinInt {
			out = append(out, v-1)
		}
		if v < math.MaxInt {
			out = append(out, v+1)
		}
	}
	slices.Sort(out)
	return slices.Compact(out)
}

// ids are the Ids that l has, and others.
func ids(l []api.Snap) []int {
	var out []int
	for _, s := range l {
		out = append(out, s.Id)
	}
	return spread(out)
}

// blocksOf are the blocks in l's Tables, and others.
func blocksOf(l []api.Snap) []int {
	out := []int{2, 5, 63, 64}
	for _, s := range l {
		for _, p := range s.Table {
			out = append(out, p.Block)
		}
	}
	return spread(out)
}
