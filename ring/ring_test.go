package ring

import (
	"fmt"
	"hash/fnv"
	"math"
	"math/rand"
	"slices"
	"testing"

	"revetment/api"
	"revetment/rig"
)

// marked lays out a marked sector by the document's words, with the library's checksum.
func marked(mark byte, seq uint32, index int, body [48]byte) api.Block {
	var b api.Block
	b[0] = mark
	b[1], b[2], b[3], b[4] = byte(seq), byte(seq>>8), byte(seq>>16), byte(seq>>24)
	b[5], b[6] = byte(index), byte(index>>8)
	copy(b[7:55], body[:])
	h := fnv.New64a()
	h.Write(b[:55])
	for i := range 8 {
		b[55+i] = byte(h.Sum64() >> (8 * i))
	}
	return b
}

// body returns a page of its own for each n below 65536.
func body(n int) [48]byte {
	var p [48]byte
	for i := range p {
		p[i] = byte(n>>(8*(i%2))) + byte(i)
	}
	return p
}

func image(seq uint32, n int) api.Block {
	return marked(0x49, seq, n, body(n))
}

func commits(seq uint32, n int) api.Block {
	return marked(0x43, seq, n, [48]byte{})
}

// txn returns the sectors of a transaction.
func txn(seq uint32, l ...int) []api.Block {
	var out []api.Block
	for _, n := range l {
		out = append(out, image(seq, n))
	}
	return append(out, commits(seq, len(l)))
}

func images(l ...int) []Image {
	var out []Image
	for _, n := range l {
		out = append(out, Image{Index: n, Body: body(n)})
	}
	return out
}

// numbered returns n images with the indices first, first + 1, and so on.
func numbered(first, n int) []Image {
	var out []Image
	for i := range n {
		out = append(out, images(first+i)...)
	}
	return out
}

func made(t *testing.T, fast int) *rig.Rig {
	t.Helper()
	r, e := rig.New(fast, 5)
	if e != api.OK {
		t.Fatal(e)
	}
	return r
}

// lay writes sectors into a ring from a place on.
func lay(t *testing.T, r *rig.Rig, from, count, at int, l []api.Block) {
	t.Helper()
	for i, b := range l {
		if e := r.Write(rig.Fast, from+(at+i)%count, b); e != api.OK {
			t.Fatal(e)
		}
	}
	r.Flush(rig.Fast)
}

// fast returns what the fast disk yields.
func fast(r *rig.Rig) []api.Block {
	var l []api.Block
	for i := range r.Len(rig.Fast) {
		b, _ := r.Read(rig.Fast, i)
		l = append(l, b)
	}
	return l
}

func sameLog(a, b Log) bool {
	return a.At == b.At && a.Seq == b.Seq && slices.EqualFunc(a.Txns, b.Txns, slices.Equal[[]Image])
}

func replays(t *testing.T, r *rig.Rig, from, count, at int, seq uint32, want Log) {
	t.Helper()
	before, done := fast(r), r.Done()
	g, e := Replay(r, from, count, at, seq)
	if e != api.OK || !sameLog(g, want) {
		t.Errorf("Replay(%d, %d, %d, %d) = %v, %v, want %v", from, count, at, seq, g, e, want)
	}
	if !slices.Equal(fast(r), before) || r.Done() != done || r.Down() {
		t.Error("Replay wrote")
	}
}

func appends(t *testing.T, r *rig.Rig, from, count, at int, seq uint32, pages []Image, want int) {
	t.Helper()
	if n, e := Append(r, from, count, at, seq, pages); e != api.OK || n != want {
		t.Errorf("Append(%d, %d, %d, %d, %d pages) = %d, %v, want %d", from, count, at, seq, len(pages), n, e, want)
	}
}

// told replays by the document's words: at each place it tries every number of images.
func told(l []api.Block, from, count, at int, seq uint32) Log {
	g := Log{At: at, Seq: seq}
	for len(g.Txns) < count {
		pages := toldNext(l[from:from+count], g.At, g.Seq)
		if pages == nil {
			break
		}
		g = Log{Txns: append(g.Txns, pages), At: (g.At + len(pages) + 1) % count, Seq: g.Seq + 1}
	}
	return g
}

func toldNext(l []api.Block, at int, seq uint32) []Image {
	for n := 1; n < len(l); n++ {
		var pages []Image
		for k := range n {
			b := l[(at+k)%len(l)]
			p := Image{Index: int(b[5]) + 256*int(b[6]), Body: [48]byte(b[7:55])}
			if b == marked(0x49, seq, p.Index, p.Body) {
				pages = append(pages, p)
			}
		}
		if len(pages) == n && l[(at+n)%len(l)] == commits(seq, n) {
			return pages
		}
	}
	return nil
}

// The chapter's example, and what it leaves on the disk.
func TestTwoPages(t *testing.T) {
	r := made(t, 12)
	appends(t, r, 3, 8, 0, 1, images(5, 9), 3)
	var want [12]api.Block
	want[3], want[4], want[5] = image(1, 5), image(1, 9), commits(1, 2)
	if !slices.Equal(fast(r), want[:]) || r.Done() != 5 {
		t.Error(fast(r), r.Done())
	}
	replays(t, r, 3, 8, 0, 1, Log{Txns: [][]Image{images(5, 9)}, At: 3, Seq: 2})
	replays(t, r, 3, 8, 3, 2, Log{At: 3, Seq: 2})
	replays(t, r, 3, 8, 0, 2, Log{At: 0, Seq: 2})
	replays(t, r, 3, 8, 1, 1, Log{At: 1, Seq: 1})
	replays(t, r, 4, 8, 0, 1, Log{At: 0, Seq: 1})
}

// P6.2: an image and a commit by hand, with checksums worked out beforehand.
func TestBytes(t *testing.T) {
	r := made(t, 4)
	p := Image{Index: 0x0506}
	for i := range p.Body {
		p.Body[i] = byte(i + 1)
	}
	appends(t, r, 1, 3, 0, 0x01020304, []Image{p}, 2)
	first, _ := r.Read(rig.Fast, 1)
	if first != (api.Block{
		0x49,
		4, 3, 2, 1,
		6, 5,
		1, 2, 3, 4, 5, 6, 7, 8, 9, 10, 11, 12, 13, 14, 15, 16,
		17, 18, 19, 20, 21, 22, 23, 24, 25, 26, 27, 28, 29, 30, 31, 32,
		33, 34, 35, 36, 37, 38, 39, 40, 41, 42, 43, 44, 45, 46, 47, 48,
		0x85, 0x9b, 0xfb, 0x90, 0x2a, 0x0d, 0x2c, 0xb0,
		0,
	}) {
		t.Error(first)
	}
	second, _ := r.Read(rig.Fast, 2)
	if second != commits(0x01020304, 1) || !slices.Equal(second[:8], []byte{0x43, 4, 3, 2, 1, 1, 0, 0}) || second[54] != 0 {
		t.Error(second)
	}
}

// P6.2: from every place, of every number of pages, round the end of the ring: which sectors are written, and which are not.
func TestAppendEverywhere(t *testing.T) {
	for _, x := range []struct{ sectors, from, count int }{{2, 0, 2}, {5, 2, 2}, {9, 0, 7}, {9, 1, 7}, {9, 2, 7}, {300, 40, api.MaxRing}, {256, 0, api.MaxRing}} {
		for at := range x.count {
			for n := 1; n < x.count; n++ {
				if x.count > 10 && (at*n)%37 != 1 && n != x.count-1 {
					continue // of the long rings only some
				}
				r := made(t, x.sectors)
				want := make([]api.Block, x.sectors)
				for i := range want {
					want[i] = marked(0x77, 9, i, body(i))
				}
				lay(t, r, 0, x.sectors, 0, want)
				done := r.Done()
				pages := numbered(3, n)
				end := (at + n + 1) % x.count
				appends(t, r, x.from, x.count, at, 8, pages, end)
				for i, p := range pages {
					want[x.from+(at+i)%x.count] = image(8, p.Index)
				}
				want[x.from+(at+n)%x.count] = commits(8, n)
				if !slices.Equal(fast(r), want) || r.Done() != done+n+3 {
					t.Fatalf("%v: %d pages at %d: %v, %d", x, n, at, fast(r), r.Done()-done)
				}
				replays(t, r, x.from, x.count, at, 8, Log{Txns: [][]Image{pages}, At: end, Seq: 9})
			}
		}
	}
}

// P6.2: in which order the sectors are written and flushed, and that no others are.
func TestOrder(t *testing.T) {
	const n, from, count, at = 3, 2, 6, 4
	l := txn(7, 10, 11, 12)
	for fuse := range n + 5 {
		for _, survives := range []bool{false, true} {
			r := made(t, 10)
			r.Write(rig.Slow, 1, image(1, 1)) // loose: no flush may settle it
			r.Arm(fuse)
			k, e := Append(r, from, count, at, 7, images(10, 11, 12))
			if fuse >= n+3 && (e != api.OK || k != 2) || fuse < n+3 && (e != api.ErrDown || k != 0 || !r.Down()) {
				t.Errorf("fuse %d: %d, %v", fuse, k, e)
			}
			written := min(fuse, n)
			flushed := 0
			if fuse >= n+1 {
				flushed = n
			}
			if fuse >= n+2 {
				written = n + 1
			}
			if fuse >= n+3 {
				flushed = n + 1
			}
			picks := make([]byte, 10)
			if survives {
				flushed = written
				for i := range picks {
					picks[i] = 1
				}
			}
			r.Crash(picks, nil)
			var want [10]api.Block
			for i := range flushed {
				want[from+(at+i)%count] = l[i]
			}
			if !slices.Equal(fast(r), want[:]) {
				t.Errorf("fuse %d, %v: %v", fuse, survives, fast(r))
			}
			if b, _ := r.Read(rig.Slow, 1); b != (api.Block{}) {
				t.Error("the slow disk was flushed")
			}
		}
	}
}

// P6.1, P6.2: several transactions, over the end of the ring and over the first ones.
func TestRound(t *testing.T) {
	r := made(t, 20)
	const from, count, last = 5, 9, math.MaxUint32
	appends(t, r, from, count, 6, last-1, images(1), 8)
	appends(t, r, from, count, 8, last, images(65535, 0), 2)
	appends(t, r, from, count, 2, 0, images(4, 4, 3), 6)
	all := [][]Image{images(1), images(65535, 0), images(4, 4, 3)}
	// the ring is full: replaying ends where it began
	replays(t, r, from, count, 6, last-1, Log{Txns: all, At: 6, Seq: 1})
	replays(t, r, from, count, 8, last, Log{Txns: all[1:], At: 6, Seq: 1})
	replays(t, r, from, count, 2, 0, Log{Txns: all[2:], At: 6, Seq: 1})
	replays(t, r, from, count, 6, 1, Log{At: 6, Seq: 1})
	replays(t, r, from, count, 6, last, Log{At: 6, Seq: last})
	appends(t, r, from, count, 6, 1, images(9), 8)
	replays(t, r, from, count, 6, last-1, Log{At: 6, Seq: last - 1})
	replays(t, r, from, count, 8, last, Log{Txns: [][]Image{all[1], all[2], images(9)}, At: 8, Seq: 2})
	appends(t, r, from, count, 8, 2, images(7), 1) // over the first sectors of a longer one
	replays(t, r, from, count, 8, last, Log{At: 8, Seq: last})
	replays(t, r, from, count, 2, 0, Log{Txns: [][]Image{all[2], images(9), images(7)}, At: 1, Seq: 3})
	replays(t, r, from, count, 1, 3, Log{At: 1, Seq: 3})
}

type laid struct {
	name string
	l    []api.Block
	want [][]Image // from place 0 and sequence 7 on, in a ring of 6
}

func forms() []laid {
	other := func(mark byte, seq uint32, index int) api.Block { return marked(mark, seq, index, [48]byte{}) }
	broken := func(b api.Block, i int) api.Block { b[i] ^= 1; return b }
	one := [][]Image{images(3)}
	l := []laid{
		{"zeros", nil, nil},
		{"a transaction", txn(7, 3), one},
		{"count - 1 images", txn(7, 1, 2, 3, 4, 5), [][]Image{images(1, 2, 3, 4, 5)}},
		{"count images", []api.Block{image(7, 1), image(7, 2), image(7, 3), image(7, 4), image(7, 5), image(7, 6)}, nil},
		{"a page twice, not ascending", txn(7, 9, 2, 9), [][]Image{images(9, 2, 9)}},
		{"the greatest index", txn(7, 65535, 0), [][]Image{images(65535, 0)}},
		{"a page of zeros", []api.Block{other(0x49, 7, 0), commits(7, 1)}, [][]Image{{{}}}},
		{"a commit without images", []api.Block{commits(7, 0)}, nil},
		{"a commit of one without images", []api.Block{commits(7, 1)}, nil},
		{"a commit without images ahead of a transaction", append([]api.Block{commits(7, 0)}, txn(7, 3)...), nil},
		{"a commit without images ahead of the next transaction", append([]api.Block{commits(7, 0)}, txn(8, 3)...), nil},
		{"a commit without images behind a transaction", append(txn(7, 3), commits(8, 0)), one},
		{"images without a commit", []api.Block{image(7, 1), image(7, 2)}, nil},
		{"images ahead of the next transaction", append([]api.Block{image(7, 1), image(7, 2)}, txn(8, 3)...), nil},
		{"images behind a transaction", append(txn(7, 3), image(8, 1), image(8, 2)), one},
		{"images of another sequence than their commit", []api.Block{image(7, 1), image(7, 2), commits(8, 2)}, nil},
		{"an earlier transaction", txn(6, 3), nil},
		{"a later transaction", txn(8, 3), nil},
		{"the sequence in its first byte alone", txn(7+256, 3), nil},
		{"the same sequence twice", append(txn(7, 3), txn(7, 4)...), one},
		{"a sequence left out", append(txn(7, 3), txn(9, 4)...), one},
		{"three transactions", slices.Concat(txn(7, 3), txn(8, 4), txn(9, 3)), [][]Image{images(3), images(4), images(3)}},
		{"two transactions behind zeros", slices.Concat(txn(7, 3), []api.Block{{}}, txn(8, 4)), one},
		{"a commit twice", append(txn(7, 3), commits(7, 1)), one},
	}
	for _, n := range []int{0, 1, 3, 4, 258, 65535} {
		l = append(l, laid{fmt.Sprint("two images, a commit of ", n), []api.Block{image(7, 1), image(7, 2), commits(7, n)}, nil})
	}
	for k := range 3 {
		for _, seq := range []uint32{0, 6, 8, 7 + 1<<8, 7 + 1<<24, math.MaxUint32} {
			b := txn(7, 1, 2)
			b[k] = marked(b[k][0], seq, int(b[k][5]), [48]byte(b[k][7:55]))
			l = append(l, laid{fmt.Sprint("sequence ", seq, " in sector ", k), b, nil})
		}
		for mark := range 256 {
			b := txn(7, 1, 2)
			if mark == int(b[k][0]) {
				continue
			}
			b[k] = marked(byte(mark), 7, int(b[k][5]), [48]byte(b[k][7:55]))
			l = append(l, laid{fmt.Sprint("mark ", mark, " in sector ", k), b, nil})
		}
		for i := range 64 {
			b := txn(7, 1, 2)
			b[k] = broken(b[k], i)
			l = append(l, laid{fmt.Sprint("sector ", k, " broken at ", i), b, nil})
		}
	}
	for i := range 48 {
		var p [48]byte
		p[i] = 1
		l = append(l, laid{fmt.Sprint("byte ", i, " of a commit"), append(txn(7, 1, 2)[:2], marked(0x43, 7, 2, p)), nil})
	}
	return l
}

// P6.1: what is a transaction, and what is none.
func TestForms(t *testing.T) {
	for _, x := range forms() {
		for at := range 6 {
			r := made(t, 9)
			lay(t, r, 2, 6, at, x.l)
			want := Log{Txns: x.want, At: at, Seq: 7}
			for _, pages := range x.want {
				want.At = (want.At + len(pages) + 1) % 6
				want.Seq++
			}
			g, e := Replay(r, 2, 6, at, 7)
			if e != api.OK || !sameLog(g, want) {
				t.Errorf("%s, at %d: %v, %v", x.name, at, g, e)
			}
			if !sameLog(want, told(fast(r), 2, 6, at, 7)) {
				t.Errorf("%s, at %d: the tests differ from each other", x.name, at)
			}
		}
	}
}

// P6.1: the sequence goes round wherever it stands.
func TestSequences(t *testing.T) {
	for _, seq := range []uint32{0, 1, 255, 256, 65535, 1<<31 - 1, 1 << 31, math.MaxUint32 - 1, math.MaxUint32} {
		r := made(t, 8)
		lay(t, r, 0, 8, 5, slices.Concat(txn(seq, 1), txn(seq+1, 2, 3), txn(seq+2, 4)))
		replays(t, r, 0, 8, 5, seq, Log{Txns: [][]Image{images(1), images(2, 3), images(4)}, At: 4, Seq: seq + 3})
		replays(t, r, 0, 8, 7, seq+1, Log{Txns: [][]Image{images(2, 3), images(4)}, At: 4, Seq: seq + 3})
	}
}

// P6.1: the sectors beside the ring, and those of the slow disk, are none of its.
func TestOutside(t *testing.T) {
	r := made(t, 8)
	lay(t, r, 0, 8, 2, slices.Concat(txn(7, 1, 2, 3), txn(8, 4)))
	replays(t, r, 2, 6, 0, 7, Log{Txns: [][]Image{images(1, 2, 3), images(4)}, At: 0, Seq: 9})
	replays(t, r, 2, 5, 0, 7, Log{Txns: [][]Image{images(1, 2, 3)}, At: 4, Seq: 8})
	replays(t, r, 2, 4, 0, 7, Log{Txns: [][]Image{images(1, 2, 3)}, At: 0, Seq: 8})
	replays(t, r, 2, 3, 0, 7, Log{At: 0, Seq: 7})
	replays(t, r, 3, 4, 0, 7, Log{At: 0, Seq: 7})
	replays(t, r, 3, 4, 3, 8, Log{At: 3, Seq: 8})
	replays(t, r, 3, 5, 3, 8, Log{Txns: [][]Image{images(4)}, At: 0, Seq: 9})

	r = made(t, 5)
	for i, b := range txn(7, 1) {
		r.Write(rig.Slow, i, b)
	}
	replays(t, r, 0, 5, 0, 7, Log{At: 0, Seq: 7})
	appends(t, r, 0, 5, 0, 7, images(2, 3), 3)
	for i, want := range append(txn(7, 1), make([]api.Block, 3)...) {
		if b, _ := r.Read(rig.Slow, i); b != want {
			t.Error("the slow disk was written")
		}
	}
}

// P6.1: a ring that is full of transactions yields each of them once, and ends where it began if they fill it.
func TestFull(t *testing.T) {
	for _, count := range []int{2, 3, 4, 5, 8, api.MaxRing - 1, api.MaxRing} {
		for _, at := range []int{0, 1, count - 1} {
			r := made(t, count+3)
			want := Log{At: at, Seq: math.MaxUint32}
			for k := range count / 2 {
				end := (want.At + 2) % count
				appends(t, r, 3, count, want.At, want.Seq, images(k), end)
				want = Log{Txns: append(want.Txns, images(k)), At: end, Seq: want.Seq + 1}
			}
			replays(t, r, 3, count, at, math.MaxUint32, want)
			if count%2 == 0 && want.At != at {
				t.Error(want.At)
			}
			if g, _ := Replay(r, 3, count, at, math.MaxUint32); len(g.Txns) > count {
				t.Error(len(g.Txns))
			}

			pages := numbered(7, count-1)
			appends(t, r, 3, count, at, 5, pages, at)
			replays(t, r, 3, count, at, 5, Log{Txns: [][]Image{pages}, At: at, Seq: 6})
		}
	}
}

// P6.1: rings at random, out of sectors that nearly fit together, held against the document's words.
func TestReplayAtRandom(t *testing.T) {
	rnd := rand.New(rand.NewSource(61))
	most := 0
	for range 3000 {
		count := 2 + rnd.Intn(11)
		from := rnd.Intn(4)
		r := made(t, from+count+rnd.Intn(3))
		seq := uint32(rnd.Intn(4)) - 2
		var l []api.Block
		for s := seq; len(l) < count; s++ {
			var pages []int
			for range 1 + rnd.Intn(3) {
				pages = append(pages, rnd.Intn(5))
			}
			l = append(l, txn(s, pages...)...)
		}
		l = l[:count]
		for range rnd.Intn(3) {
			l[rnd.Intn(count)] = []api.Block{{}, commits(seq, rnd.Intn(3)), image(seq, 1), image(seq+1, 1), commits(seq+1, 1), l[rnd.Intn(count)]}[rnd.Intn(6)]
		}
		lay(t, r, from, count, rnd.Intn(count), l)
		for at := range count {
			for s := seq - 1; s != seq+8; s++ {
				want := told(fast(r), from, count, at, s)
				most = max(most, len(want.Txns))
				if g, e := Replay(r, from, count, at, s); e != api.OK || !sameLog(g, want) {
					t.Fatalf("%v, %v, want %v", g, e, want)
				}
			}
		}
	}
	if most < 5 {
		t.Error("these rings have hardly any transactions:", most)
	}
}

type place struct{ from, count, at int }

// P6.1, P6.2: which rings and places there are, on fast disks of 20 and of MaxSector sectors, and on no rig.
func TestRings(t *testing.T) {
	const far = math.MaxInt
	for _, x := range []struct {
		sectors   int
		good, bad []place
	}{
		{0, nil, []place{{0, 2, 0}, {0, 4, 3}, {0, 0, 0}, {-2, 2, 0}, {-4, 4, 0}, {-1, 1, 0}}},
		{20,
			[]place{{0, 2, 0}, {0, 2, 1}, {18, 2, 0}, {18, 2, 1}, {12, 8, 0}, {12, 8, 7}, {0, 20, 0}, {0, 20, 19}, {1, 19, 18}},
			[]place{
				{-1, 2, 0}, {-1, 8, 0}, {-8, 8, 0}, {-20, 8, 0}, {math.MinInt, 8, 0}, {math.MinInt32, 8, 0},
				{0, 1, 0}, {5, 1, 0}, {19, 1, 0}, {20, 1, 0}, {0, 0, 0}, {0, -1, 0}, {0, -2, 0}, {0, -8, 0}, {20, -8, 0}, {0, math.MinInt, 0}, {20, math.MinInt, 0},
				{19, 2, 0}, {20, 2, 0}, {13, 8, 0}, {0, 21, 0}, {1, 20, 0}, {0, api.MaxRing, 0}, {0, api.MaxRing + 1, 0},
				{far, 2, 0}, {far - 1, 2, 0}, {far - 2, 2, 0}, {far, 8, 0}, {far - 7, 8, 0}, {far - 8, 8, 0}, {1 << 62, 8, 0}, {1 << 32, 8, 0}, {far, api.MaxRing, 0},
				{0, far, 0}, {1, far, 0}, {20, far, 0}, {far, far, 0}, {0, 1<<32 + 8, 0}, {far, 1, 0}, {-1, far, 0}, {math.MinInt, far, 0}, {math.MinInt, math.MinInt, 0},
				{0, 2, -1}, {0, 2, 2}, {12, 8, -1}, {12, 8, 8}, {12, 8, 9}, {12, 8, far}, {12, 8, math.MinInt}, {12, 8, -8}, {0, 20, 20}, {0, 8, 1 << 32},
			}},
		{api.MaxSector,
			[]place{{0, api.MaxRing, 0}, {0, api.MaxRing, api.MaxRing - 1}, {1, api.MaxRing - 1, api.MaxRing - 2}, {api.MaxSector - api.MaxRing, api.MaxRing, 255}, {api.MaxSector - 2, 2, 1}},
			[]place{{0, api.MaxRing + 1, 0}, {0, 300, 0}, {0, api.MaxSector, 0}, {0, api.MaxRing, api.MaxRing}, {api.MaxSector - api.MaxRing + 1, api.MaxRing, 0}, {api.MaxSector - 1, 2, 0}, {0, far, 0}, {5, 1, 0}}},
	} {
		var r *rig.Rig
		if x.sectors > 0 {
			r = made(t, x.sectors)
		}
		for _, p := range x.good {
			appends(t, r, p.from, p.count, p.at, 3, images(9), (p.at+2)%p.count)
			replays(t, r, p.from, p.count, p.at, 3, Log{Txns: [][]Image{images(9)}, At: (p.at + 2) % p.count, Seq: 4})
		}
		for _, p := range x.bad {
			refusesRing(t, r, p)
		}
	}
}

// refusesRing checks that there is no such ring, whatever else is wrong.
func refusesRing(t *testing.T, r *rig.Rig, p place) {
	t.Helper()
	before, done := fast(r), r.Done()
	if g, e := Replay(r, p.from, p.count, p.at, 3); e != api.ErrArg || !sameLog(g, Log{}) {
		t.Errorf("%v: %v, %v", p, g, e)
	}
	for _, pages := range [][]Image{nil, images(1), {{Index: -1}}, numbered(0, 400)} {
		if n, e := Append(r, p.from, p.count, p.at, 3, pages); e != api.ErrArg || n != 0 {
			t.Errorf("%v, %d pages: %d, %v", p, len(pages), n, e)
		}
	}
	if !slices.Equal(fast(r), before) || r.Done() != done {
		t.Errorf("%v: something was written", p)
	}
}

// P6.2: what may not be appended, in which order the errors come, also on a rig that is down, and that nothing is written.
func TestWrongPages(t *testing.T) {
	bad := func(n, at, index int) []Image {
		l := numbered(0, n)
		l[at].Index = index
		return l
	}
	for _, x := range []struct {
		pages []Image
		want  api.Errno
	}{
		{nil, api.ErrLong},
		{[]Image{}, api.ErrLong},
		{numbered(0, 8), api.ErrLong},
		{numbered(0, 9), api.ErrLong},
		{numbered(0, 1000), api.ErrLong},
		{bad(8, 0, -1), api.ErrLong},
		{bad(8, 7, 65536), api.ErrLong},
		{bad(7, 0, -1), api.ErrArg},
		{bad(7, 6, -1), api.ErrArg},
		{bad(7, 6, 65536), api.ErrArg},
		{bad(7, 3, math.MaxInt), api.ErrArg},
		{bad(7, 3, math.MinInt), api.ErrArg},
		{bad(3, 1, 1<<32+1), api.ErrArg},
		{bad(3, 1, 65537), api.ErrArg},
		{bad(1, 0, -1), api.ErrArg},
		{bad(1, 0, 65536), api.ErrArg},
		{bad(1, 0, -65536), api.ErrArg},
	} {
		for _, fuse := range []int{-1, 0, 1, 20} {
			r := made(t, 20)
			lay(t, r, 2, 8, 0, txn(1, 5))
			before := fast(r)
			r.Arm(fuse)
			if n, e := Append(r, 2, 8, 5, 2, x.pages); e != x.want || n != 0 {
				t.Errorf("%v: %d, %v", x.pages, n, e)
			}
			if r.Down() || r.Done() != 3 || !slices.Equal(fast(r), before) {
				t.Errorf("%v: something was written", x.pages)
			}
		}
		r := downed(t)
		if n, e := Append(r, 2, 8, 5, 2, x.pages); e != x.want || n != 0 {
			t.Errorf("down, %v: %d, %v", x.pages, n, e)
		}
	}
	for _, pages := range [][]Image{numbered(0, 7), bad(7, 0, 65535), bad(7, 6, 0), bad(1, 0, 65535)} {
		r := made(t, 20)
		appends(t, r, 2, 8, 5, 2, pages, (5+len(pages)+1)%8)
		if g := told(fast(r), 2, 8, 5, 2); len(g.Txns) != 1 || !slices.Equal(g.Txns[0], pages) {
			t.Error(g, pages)
		}
	}
}

// downed returns a rig that is down, with a transaction.
func downed(t *testing.T) *rig.Rig {
	t.Helper()
	r := made(t, 20)
	lay(t, r, 2, 8, 0, txn(1, 5))
	r.Arm(0)
	r.Flush(rig.Slow)
	if !r.Down() {
		t.Fatal("not down")
	}
	return r
}

// P6.1, P6.2: a rig that is down has errors of its own, behind those of the arguments; one whose fuse has burnt can still be read.
func TestDown(t *testing.T) {
	r := downed(t)
	if g, e := Replay(r, 2, 8, 0, 1); e != api.ErrDown || !sameLog(g, Log{}) {
		t.Error(g, e)
	}
	if g, e := Replay(r, 2, 8, 3, 0); e != api.ErrDown || !sameLog(g, Log{}) {
		t.Error(g, e)
	}
	if n, e := Append(r, 2, 8, 2, 2, images(1)); e != api.ErrDown || n != 0 {
		t.Error(n, e)
	}
	for _, p := range []place{{-1, 8, 0}, {2, 1, 0}, {13, 8, 0}, {2, 8, -1}, {2, 8, 8}} {
		if g, e := Replay(r, p.from, p.count, p.at, 1); e != api.ErrArg || !sameLog(g, Log{}) {
			t.Error(p, g, e)
		}
		if n, e := Append(r, p.from, p.count, p.at, 2, images(1)); e != api.ErrArg || n != 0 {
			t.Error(p, n, e)
		}
	}
	r.Crash(nil, nil)
	r.Arm(0)
	replays(t, r, 2, 8, 0, 1, Log{Txns: [][]Image{images(5)}, At: 2, Seq: 2})
	if n, e := Append(r, 2, 8, 2, 2, images(1)); e != api.ErrDown || n != 0 || !r.Down() {
		t.Error(n, e)
	}
}

// What Append is given is left as it was, its spare capacity too, and is not kept, with and without an error.
func TestPagesStay(t *testing.T) {
	for _, n := range []int{0, 1, 3, 5, 6} {
		for fuse := -1; fuse < 9; fuse++ {
			for _, wrong := range []bool{false, true} {
				l := numbered(20, 10)
				if wrong {
					l[max(n-1, 0)].Index = 65536
				}
				was := slices.Clone(l)
				r := made(t, 9)
				r.Arm(fuse)
				Append(r, 2, 6, 4, 7, l[:n])
				if !slices.Equal(l, was) {
					t.Errorf("%d pages, fuse %d: %v", n, fuse, l)
				}
			}
		}
	}
	l := numbered(20, 3)
	r := made(t, 9)
	appends(t, r, 2, 6, 4, 7, l, 2)
	clear(l)
	replays(t, r, 2, 6, 4, 7, Log{Txns: [][]Image{numbered(20, 3)}, At: 2, Seq: 8})
}

// What Replay returned is the caller's, with its spare capacity: no two lists of it share memory, nor do two results.
func TestLogIsNew(t *testing.T) {
	r := made(t, 40)
	lay(t, r, 0, 40, 0, slices.Concat(txn(1, 1, 2, 3), txn(2, 4), txn(3, 5, 6, 7, 8, 9), txn(4, 1)))
	want := told(fast(r), 0, 40, 0, 1)
	one, _ := Replay(r, 0, 40, 0, 1)
	other, _ := Replay(r, 0, 40, 0, 1)
	for k := range one.Txns {
		l := one.Txns[k][:cap(one.Txns[k])]
		for i := range l {
			l[i] = images(99)[0]
		}
		if !sameLog(Log{Txns: one.Txns[k+1:], At: want.At, Seq: want.Seq}, Log{Txns: want.Txns[k+1:], At: want.At, Seq: want.Seq}) {
			t.Error(one)
		}
	}
	spare := one.Txns[:cap(one.Txns)]
	for i := range spare {
		spare[i] = nil
	}
	if !sameLog(other, want) {
		t.Error(other)
	}
	replays(t, r, 0, 40, 0, 1, want)
}

// written is a ring with transactions, the last one of which ends at a place.
type written struct {
	r     *rig.Rig
	begin []Log // of each transaction: it alone, and the place and the sequence where it begins
	at    int
	seq   uint32
}

// filled returns a ring of 8 from sector 3 on with transactions of these numbers of pages, the last one of which ends at place at.
func filled(t *testing.T, at int, seq uint32, sizes ...int) written {
	t.Helper()
	w := written{r: made(t, 12), at: at + 16, seq: seq - uint32(len(sizes))}
	for _, n := range sizes {
		w.at -= n + 1
	}
	for k, n := range sizes {
		pages := numbered(100*k, n)
		w.begin = append(w.begin, Log{Txns: [][]Image{pages}, At: w.at % 8, Seq: w.seq})
		appends(t, w.r, 3, 8, w.at%8, w.seq, pages, (w.at+n+1)%8)
		w.at += n + 1
		w.seq++
	}
	w.at %= 8
	return w
}

// P6.3: an Append that is cut at each of its writes and flushes, and every crash: what was there before is there, and the new one is there completely or not at all.
func TestTorn(t *testing.T) {
	for _, sizes := range [][]int{nil, {2}, {1, 1}, {3, 1}, {1, 2}, {2, 1, 1}, {1, 1, 1, 1}, {7}} {
		for n := 1; n < 8; n++ {
			for at := range 8 {
				for fuse := range n + 5 {
					if n > 4 && fuse < n-1 && fuse != n/2 {
						continue // of the long ones only some
					}
					for picks := range 1 << min(fuse, n) {
						torn(t, filled(t, at, uint32(at-4), sizes...), n, fuse, picks)
					}
				}
			}
		}
	}
}

func torn(t *testing.T, w written, n, fuse, picks int) {
	t.Helper()
	var l [8]byte
	for i := range l {
		l[i] = byte(picks >> i & 1)
	}
	pages := numbered(1000, n)
	w.r.Arm(fuse)
	_, e := Append(w.r, 3, 8, w.at, w.seq, pages)
	if (e == api.OK) != (fuse >= n+3) || e != api.OK && e != api.ErrDown {
		t.Errorf("%d pages, fuse %d: %v", n, fuse, e)
	}
	w.r.Crash(l[:], nil)

	want := Log{At: w.at, Seq: w.seq}
	if e == api.OK || fuse == n+2 && l[0] == 1 {
		want = Log{Txns: [][]Image{pages}, At: (w.at + n + 1) % 8, Seq: w.seq + 1}
	}
	replays(t, w.r, 3, 8, w.at, w.seq, want)
	left := 8 - (n + 1) // sectors ahead of the new one that it has not overwritten
	for k := len(w.begin) - 1; k >= 0; k-- {
		g := w.begin[k]
		left -= len(g.Txns[0]) + 1
		if left < 0 {
			break
		}
		want.Txns = append(slices.Clone(g.Txns), want.Txns...)
		replays(t, w.r, 3, 8, g.At, g.Seq, want)
	}
}

// P6.3: a ring that is used for long, with crashes, and appended to again where Replay says: what a cut Append left behind never comes back.
func TestLongUse(t *testing.T) {
	for seed := range int64(150) {
		rnd := rand.New(rand.NewSource(seed))
		count := 2 + rnd.Intn(12)
		from := rnd.Intn(3)
		r := made(t, from+count)
		first := Log{At: rnd.Intn(count), Seq: uint32(rnd.Intn(60)) - 50} // where what is kept begins
		now := first
		for step := range 200 {
			n := 1 + rnd.Intn(count-1)
			for used(now.Txns)+n+1 > count {
				first.At, first.Seq = (first.At+len(now.Txns[0])+1)%count, first.Seq+1
				now.Txns = now.Txns[1:]
			}
			pages := numbered(1000*step%60000, n)
			with := Log{Txns: append(slices.Clone(now.Txns), pages), At: (now.At + n + 1) % count, Seq: now.Seq + 1}
			fuse := rnd.Intn(2*n + 6)
			r.Arm(fuse)
			end, e := Append(r, from, count, now.At, now.Seq, pages)
			picks := make([]byte, rnd.Intn(count+1))
			rnd.Read(picks)
			r.Crash(picks, nil)
			g, f := Replay(r, from, count, first.At, first.Seq)
			switch {
			case f != api.OK, e == api.OK && end != with.At, (e == api.OK) != (fuse >= n+3):
				t.Fatalf("seed %d, step %d: %v, %v, %d", seed, step, e, f, end)
			case sameLog(g, with) && fuse >= n+2:
				now = with
			case !sameLog(g, now) || e == api.OK:
				t.Fatalf("seed %d, step %d, fuse %d: %v, was %v, new %v", seed, step, fuse, g, now, pages)
			}
		}
	}
}

// used returns how many sectors transactions take.
func used(l [][]Image) int {
	n := 0
	for _, pages := range l {
		n += len(pages) + 1
	}
	return n
}
