package meta

import (
	"hash/fnv"
	"slices"
	"testing"

	"revetment/api"
	"revetment/geom"
	"revetment/rig"
)

// What these tests hold meta against: what the document's words say of the sectors of the fast disk, reckoned anew from all of them each time.

// marked lays out a marked sector by the document's words, with the library's checksum.
func marked(mark byte, seq uint32, index int, body []byte) api.Block {
	var b api.Block
	b[0] = mark
	b[1], b[2], b[3], b[4] = byte(seq), byte(seq>>8), byte(seq>>16), byte(seq>>24)
	b[5], b[6] = byte(index), byte(index>>8)
	copy(b[7:55], body)
	h := fnv.New64a()
	h.Write(b[:55])
	for i := range 8 {
		b[55+i] = byte(h.Sum64() >> (8 * i))
	}
	return b
}

func superBody(g api.Geom, at int, seq uint32) []byte {
	return []byte{
		0x52, 0x56, 0x54, 0x31,
		byte(g.Blocks), byte(g.Blocks >> 8), byte(g.Sets), byte(g.Ways),
		byte(g.Area), byte(g.Area >> 8), byte(g.Ring), byte(g.Ring >> 8),
		byte(at), byte(at >> 8),
		byte(seq), byte(seq >> 8), byte(seq >> 16), byte(seq >> 24),
	}
}

func superblock(gen uint32, g api.Geom, at int, seq uint32) api.Block {
	return marked(0x53, gen, 0, superBody(g, at, seq))
}

func homePage(i int, body []byte) api.Block { return marked(0x48, 0, i, body) }

func image(seq uint32, i int, body []byte) api.Block { return marked(0x49, seq, i, body) }

func commits(seq uint32, n int) api.Block { return marked(0x43, seq, n, nil) }

func low(b []byte) int { return int(b[0]) + 256*int(b[1]) }

func long(b []byte) uint32 { return uint32(low(b)) + 65536*uint32(low(b[2:])) }

// pageOf returns the bytes of page i of b, with zeros behind the last ones.
func pageOf(b []byte, i int) []byte {
	p := make([]byte, 48)
	copy(p, b[48*i:])
	return p
}

// told is what a fast disk says.
type told struct {
	g     api.Geom
	gen   uint32
	newer int      // the sector of the newer superblock
	homes [][]byte // the home pages
	bytes []byte
	at    int // where the next transaction goes
	seq   uint32
	room  int
}

// toldSuper reads the superblock in sector i; ok is false if it is not correct.
func toldSuper(l []api.Block, slow, i int) (x told, ok bool) {
	b := l[i]
	p := b[7:]
	x.g = api.Geom{Blocks: low(p[4:]), Sets: int(p[6]), Ways: int(p[7]), Area: low(p[8:]), Ring: low(p[10:])}
	x.gen, x.at, x.seq, x.newer = long(b[1:]), low(p[12:]), long(p[14:]), i
	if b != superblock(x.gen, x.g, x.at, x.seq) || !geom.Good(x.g) {
		return told{}, false
	}
	return x, geom.Fast(x.g) <= len(l) && geom.Slow(x.g) <= slow && x.at < x.g.Ring
}

// toldOpen opens a fast disk beside a slow one of so many sectors; ok is false if there is nothing to open.
func toldOpen(l []api.Block, slow int) (x told, ok bool) {
	x, ok = toldSuper(l, slow, 0)
	if y, other := toldSuper(l, slow, 1); other && (!ok || y.gen > x.gen) {
		x, ok = y, true
	}
	if !ok {
		return told{}, false
	}
	for i := range geom.Pages(x.g) {
		b := l[geom.Home(x.g)+i]
		if b != homePage(i, b[7:55]) {
			return told{}, false
		}
		x.homes = append(x.homes, slices.Clone(b[7:55]))
	}
	pages := slices.Clone(x.homes)
	x.room = x.g.Ring
	for {
		images := toldNext(l[geom.Ring(x.g):][:x.g.Ring], x.at, x.seq)
		if images == nil {
			break
		}
		for _, b := range images {
			if i := low(b[5:]); i < len(pages) {
				pages[i] = slices.Clone(b[7:55])
			}
		}
		x.at = (x.at + len(images) + 1) % x.g.Ring
		x.seq++
		x.room -= len(images) + 1
	}
	x.bytes = slices.Concat(pages...)[:geom.Bytes(x.g)]
	return x, true
}

// toldNext returns the images of the transaction with this sequence at a place of the ring; there are none if it is not complete.
func toldNext(ring []api.Block, at int, seq uint32) []api.Block {
	for n := 1; n < len(ring); n++ {
		var images []api.Block
		for k := range n {
			if b := ring[(at+k)%len(ring)]; b == image(seq, low(b[5:]), b[7:55]) {
				images = append(images, b)
			}
		}
		if len(images) == n && ring[(at+n)%len(ring)] == commits(seq, n) {
			return images
		}
	}
	return nil
}

// op is a write to the fast disk, or its flush.
type op struct {
	flush  bool
	sector int
	b      api.Block
}

// toldFormat is what a Format does.
func toldFormat(g api.Geom, b []byte) []op {
	l := []op{{sector: 0}, {sector: 1}, {flush: true}}
	for i := range g.Ring {
		l = append(l, op{sector: 2 + i})
	}
	for i := range geom.Pages(g) {
		l = append(l, op{sector: 2 + g.Ring + i, b: homePage(i, pageOf(b, i))})
	}
	return append(l, op{flush: true}, op{sector: 0, b: superblock(1, g, 0, 1)}, op{flush: true})
}

// toldCommit is what a Commit of b does on a disk that says x; checkpoint tells whether there is one first.
func (x told) toldCommit(b []byte) (l []op, checkpoint bool) {
	var images []int
	for i := range x.homes {
		if !slices.Equal(pageOf(x.bytes, i), pageOf(b, i)) {
			images = append(images, i)
		}
	}
	if len(images) == 0 {
		return nil, false
	}
	if len(images)+1 > x.room {
		checkpoint = true
		for i, home := range x.homes {
			if p := pageOf(x.bytes, i); !slices.Equal(p, home) {
				l = append(l, op{sector: geom.Home(x.g) + i, b: homePage(i, p)})
			}
		}
		l = append(l, op{flush: true}, op{sector: 1 - x.newer, b: superblock(x.gen+1, x.g, x.at, x.seq)}, op{flush: true})
	}
	for k, i := range images {
		l = append(l, op{sector: 2 + (x.at+k)%x.g.Ring, b: image(x.seq, i, pageOf(b, i))})
	}
	l = append(l, op{flush: true}, op{sector: 2 + (x.at+len(images))%x.g.Ring, b: commits(x.seq, len(images))})
	return append(l, op{flush: true}), checkpoint
}

// after returns a fast disk after these, and a crash that leaves all of what is loose, or none.
func after(l []api.Block, ops []op, survives bool) []api.Block {
	durable, last := slices.Clone(l), slices.Clone(l)
	for _, o := range ops {
		if o.flush {
			durable = slices.Clone(last)
		} else {
			last[o.sector] = o.b
		}
	}
	if survives {
		return last
	}
	return durable
}

// whole is what a crash leaves all by.
func whole() []byte { return slices.Repeat([]byte{1}, 300) }

func picks(survives bool) []byte {
	if survives {
		return whole()
	}
	return nil
}

// content returns what a disk of r yields.
func content(r *rig.Rig, dev int) []api.Block {
	var l []api.Block
	for i := range r.Len(dev) {
		b, _ := r.Read(dev, i)
		l = append(l, b)
	}
	return l
}

func fast(r *rig.Rig) []api.Block { return content(r, rig.Fast) }

// shape is the chapter's geometry, with a ring of 6.
func shape() api.Geom { return api.Geom{Blocks: 8, Sets: 2, Ways: 2, Area: 4, Ring: 6} }

// ringed is the same with another ring.
func ringed(n int) api.Geom {
	g := shape()
	g.Ring = n
	return g
}

// shapes are the smallest geometries and the largest ones, and such whose bytes just fill their pages.
func shapes() []api.Geom {
	return []api.Geom{
		shape(), ringed(5), ringed(11),
		{Blocks: 1, Sets: 1, Ways: 1, Area: 0, Ring: 4},
		{Blocks: 9, Sets: 5, Ways: 1, Area: 1, Ring: 5}, // 144 bytes
		{Blocks: 9, Sets: 2, Ways: 3, Area: 3, Ring: 6}, // 145 bytes
		{Blocks: 64, Sets: 8, Ways: 4, Area: 200, Ring: 17},
		{Blocks: 64, Sets: 8, Ways: 4, Area: 200, Ring: 256},
	}
}

// filled returns the bytes of a state of g, all of them other than zero, and others for each n below 7.
func filled(g api.Geom, n int) []byte {
	b := make([]byte, geom.Bytes(g))
	for i := range b {
		b[i] = byte(1 + (7*i+i/48+36*n)%255)
	}
	return b
}

// turned returns b with one byte changed in each of these pages.
func turned(b []byte, pages ...int) []byte {
	b = slices.Clone(b)
	for _, i := range pages {
		b[min(48*i+5*i%48, len(b)-1)]++
	}
	return b
}

// junk is what stands in a sector that nobody has written yet.
func junk(dev, i int) api.Block {
	return marked(0x77, uint32(dev), i, []byte{9, 9, 9})
}

// strewn returns a rig that has more sectors than g uses, all of them with junk, and in the ring what has been a transaction.
func strewn(t *testing.T, g api.Geom, more int) *rig.Rig {
	t.Helper()
	r, e := rig.New(geom.Fast(g)+more, geom.Slow(g)+more)
	if e != api.OK {
		t.Fatal(e)
	}
	for dev := range 2 {
		for i := range r.Len(dev) {
			put(t, r, dev, i, junk(dev, i))
		}
		r.Flush(dev)
	}
	put(t, r, rig.Fast, 2, image(1, 0, []byte{1}))
	put(t, r, rig.Fast, 3, commits(1, 1))
	r.Flush(rig.Fast)
	return r
}

// put writes one sector from outside.
func put(t *testing.T, r *rig.Rig, dev, i int, b api.Block) {
	t.Helper()
	if e := r.Write(dev, i, b); e != api.OK {
		t.Fatal(e)
	}
}

// laid writes sectors of the fast disk from outside, and flushes.
func laid(t *testing.T, r *rig.Rig, first int, l ...api.Block) {
	t.Helper()
	for i, b := range l {
		put(t, r, rig.Fast, first+i, b)
	}
	r.Flush(rig.Fast)
}

// formatted returns a rig with g and b.
func formatted(t *testing.T, g api.Geom, b []byte) (*rig.Rig, *Meta) {
	t.Helper()
	r := strewn(t, g, 3)
	m, e := Format(r, g, b)
	if e != api.OK || m == nil {
		t.Fatal(m, e)
	}
	return r, m
}

// says checks what m answers.
func says(t *testing.T, m *Meta, g api.Geom, b []byte, room int) {
	t.Helper()
	if m.Geom() != g || !slices.Equal(m.Bytes(), b) || m.Room() != room {
		t.Fatalf("%v, room %d, %v\nwant %v, room %d, %v", m.Geom(), m.Room(), m.Bytes(), g, room, b)
	}
}

// opens opens r, and checks it against what its disk says; nothing is written.
func opens(t *testing.T, r *rig.Rig) *Meta {
	t.Helper()
	x, ok := toldOpen(fast(r), r.Len(rig.Slow))
	if !ok {
		t.Fatal("the disk has nothing to open")
	}
	before, done := fast(r), r.Done()
	m, e := Open(r)
	if e != api.OK || m == nil {
		t.Fatal(m, e)
	}
	says(t, m, x.g, x.bytes, x.room)
	if !slices.Equal(fast(r), before) || r.Done() != done {
		t.Fatal("Open wrote")
	}
	return m
}

// opensAs also checks what it opens.
func opensAs(t *testing.T, r *rig.Rig, g api.Geom, b []byte, room int) *Meta {
	t.Helper()
	m := opens(t, r)
	says(t, m, g, b, room)
	return m
}

// opensNot checks that there is nothing to open on r.
func opensNot(t *testing.T, r *rig.Rig, want api.Errno) {
	t.Helper()
	if m, e := Open(r); m != nil || e != want {
		t.Fatalf("%v, %v, want %v", m, e, want)
	}
}

// commit commits b on m, and checks it against what the disk of r says.
func commit(t *testing.T, r *rig.Rig, m *Meta, b []byte) (checkpoint bool) {
	t.Helper()
	before, done, slow := fast(r), r.Done(), content(r, rig.Slow)
	x, ok := toldOpen(before, r.Len(rig.Slow))
	if !ok {
		t.Fatal("the disk has nothing to open")
	}
	ops, checkpoint := x.toldCommit(b)
	if e := m.Commit(b); e != api.OK {
		t.Fatal(e)
	}
	if got := fast(r); !slices.Equal(got, after(before, ops, false)) {
		t.Fatalf("%v\nwant %v", got, after(before, ops, false))
	}
	if r.Done() != done+len(ops) || !slices.Equal(content(r, rig.Slow), slow) {
		t.Fatalf("%d writes and flushes, want %d", r.Done()-done, len(ops))
	}
	y, _ := toldOpen(fast(r), r.Len(rig.Slow))
	says(t, m, x.g, b, y.room)
	return checkpoint
}
