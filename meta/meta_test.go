package meta

import (
	"math"
	"math/rand"
	"slices"
	"testing"

	"revetment/api"
	"revetment/geom"
	"revetment/rig"
)

// The limits that the chapter names, which these tests write out.
func TestLimits(t *testing.T) {
	if api.Page != 48 || api.Size != 64 {
		t.Error(api.Page, api.Size)
	}
}

// The chapter's example.
func TestExample(t *testing.T) {
	g := ringed(10)
	r, m := formatted(t, g, filled(g, 0))
	says(t, m, g, filled(g, 0), 10)
	done := r.Done()
	b := filled(g, 0)
	b[100]++
	if e := m.Commit(b); e != api.OK || r.Done() != done+4 {
		t.Error(e, r.Done()-done)
	}
	says(t, m, g, b, 8)
	opensAs(t, r, g, b, 8)
	var zeros api.Block
	if l := fast(r)[2:6]; l[0] != image(1, 2, pageOf(b, 2)) || l[1] != commits(1, 1) || l[2] != zeros || l[3] != zeros {
		t.Error(l)
	}
}

// P8.1, P8.3: superblocks and a home page by hand, with checksums worked out beforehand.
func TestBytesByHand(t *testing.T) {
	g := api.Geom{Blocks: 8, Sets: 2, Ways: 3, Area: 200, Ring: 256}
	b := make([]byte, 128)
	copy(b[48:], "the second page")
	r, m := formatted(t, g, b)
	first := api.Block{
		0x53, 1, 0, 0, 0, 0, 0,
		0x52, 0x56, 0x54, 0x31, 8, 0, 2, 3, 200, 0, 0, 1, 0, 0, 1, 0, 0, 0,
	}
	copy(first[55:], []byte{0x6d, 0x0f, 0xd6, 0x34, 0x29, 0xfe, 0xec, 0xef})
	if l := fast(r); l[0] != first || l[1] != (api.Block{}) {
		t.Errorf("%x\n%x\n%x", l[0], first, l[1])
	}
	second := api.Block{0x48, 0, 0, 0, 0, 1, 0}
	copy(second[7:], "the second page")
	copy(second[55:], []byte{0xca, 0x57, 0x70, 0xb5, 0x58, 0x3b, 0x84, 0xb2})
	if l := fast(r)[2+256:]; l[1] != second {
		t.Errorf("%x\n%x", l[1], second)
	}
	for k := range 129 { // the last one finds no room
		b = turned(b, k%3)
		if e := m.Commit(b); e != api.OK {
			t.Fatal(e)
		}
	}
	next := api.Block{
		0x53, 2, 0, 0, 0, 0, 0,
		0x52, 0x56, 0x54, 0x31, 8, 0, 2, 3, 200, 0, 0, 1, 0, 0, 129, 0, 0, 0,
	}
	copy(next[55:], []byte{0x26, 0x0f, 0x18, 0x73, 0xfa, 0xc8, 0xb5, 0xd9})
	if l := fast(r); l[0] != first || l[1] != next {
		t.Errorf("%x\n%x", l[1], next)
	}
}

// P8.1: what Format leaves, on disks that are just as large as g uses, and on larger ones.
func TestFormat(t *testing.T) {
	for _, g := range shapes() {
		for _, more := range []int{0, 1, 7} {
			r := strewn(t, g, more)
			before, slow, done := fast(r), content(r, rig.Slow), r.Done()
			b := filled(g, 0)
			ops := toldFormat(g, b)
			m, e := Format(r, g, b)
			if e != api.OK {
				t.Fatal(g, more, e)
			}
			if got, want := fast(r), after(before, ops, false); !slices.Equal(got, want) {
				t.Fatalf("%v: %v\nwant %v", g, got, want)
			}
			if r.Done() != done+len(ops) || r.Done() != done+2+1+g.Ring+geom.Pages(g)+1+1+1 || !slices.Equal(content(r, rig.Slow), slow) {
				t.Fatalf("%v: %d writes and flushes", g, r.Done()-done)
			}
			says(t, m, g, b, g.Ring)
			r.Crash(nil, nil)
			opensAs(t, r, g, b, g.Ring)
		}
	}
}

// P8.1: in which order Format writes and flushes: each of its writes and flushes fails, and a crash leaves all that is loose, or none.
func TestFormatOrder(t *testing.T) {
	g := shape()
	ops := toldFormat(g, filled(g, 0))
	for fuse := range len(ops) + 2 {
		for _, survives := range []bool{false, true} {
			r, _ := formatted(t, g, filled(g, 1)) // another one was there
			put(t, r, rig.Slow, 1, api.Block{1})  // loose: no flush may settle it
			before, done := fast(r), r.Done()
			r.Arm(fuse)
			m, e := Format(r, g, filled(g, 0))
			if whole := fuse >= len(ops); whole != (e == api.OK) || !whole && (m != nil || e != api.ErrDown || !r.Down()) {
				t.Fatal(fuse, m, e)
			}
			if r.Done() != done+min(fuse, len(ops)) {
				t.Fatal(fuse, r.Done()-done)
			}
			r.Crash(picks(survives), nil)
			want := after(before, ops[:min(fuse, len(ops))], survives)
			if got := fast(r); !slices.Equal(got, want) {
				t.Fatalf("fuse %d, %v: %v\nwant %v", fuse, survives, got, want)
			}
			if b, _ := r.Read(rig.Slow, 1); b != junk(rig.Slow, 1) {
				t.Fatal("the slow disk was flushed")
			}
			if _, ok := toldOpen(want, r.Len(rig.Slow)); ok {
				opens(t, r)
			} else {
				opensNot(t, r, api.ErrForm)
			}
		}
	}
}

// P8.1: the errors of Format; nothing is written.
func TestFormatErrors(t *testing.T) {
	g := shape()
	size := func(fast, slow int) *rig.Rig {
		r, e := rig.New(fast, slow)
		if e != api.OK {
			t.Fatal(e)
		}
		return r
	}
	f, s := geom.Fast(g), geom.Slow(g)
	if f != 15 || s != 12 || geom.Bytes(g) != 126 {
		t.Fatal(f, s, geom.Bytes(g))
	}
	for i, x := range []struct {
		r    *rig.Rig
		g    api.Geom
		b    []byte
		want api.Errno
	}{
		{nil, g, make([]byte, 126), api.ErrArg},
		{nil, api.Geom{}, nil, api.ErrArg},
		{size(f, s), g, make([]byte, 126), api.OK},
		{size(f+1, s), g, make([]byte, 126), api.OK},
		{size(f, s+1), g, make([]byte, 126), api.OK},
		{size(f-1, s), g, make([]byte, 126), api.ErrArg},
		{size(f, s-1), g, make([]byte, 126), api.ErrArg},
		{size(f-1, s+1), g, make([]byte, 126), api.ErrArg},
		{size(f+1, s-1), g, make([]byte, 126), api.ErrArg},
		{size(s, f), g, make([]byte, 126), api.ErrArg},
		{size(1, 1), g, make([]byte, 126), api.ErrArg},
		{size(f, s), g, nil, api.ErrArg},
		{size(f, s), g, []byte{}, api.ErrArg},
		{size(f, s), g, make([]byte, 125), api.ErrArg},
		{size(f, s), g, make([]byte, 127), api.ErrArg},
		{size(f, s), g, make([]byte, 144), api.ErrArg},
		{size(f, s), g, make([]byte, 125, 126), api.ErrArg},
		{size(f, s), ringed(4), make([]byte, 126), api.ErrArg},
		{size(4096, 4096), ringed(257), make([]byte, 126), api.ErrArg},
		{size(f, s), api.Geom{}, nil, api.ErrArg},
		{size(f, s), api.Geom{}, make([]byte, 126), api.ErrArg},
		{size(4096, 4096), api.Geom{Blocks: 65, Sets: 1, Ways: 1, Ring: 100}, nil, api.ErrArg},
		{size(4096, 4096), api.Geom{Blocks: 8, Sets: math.MinInt, Ways: math.MaxInt, Area: -4, Ring: math.MaxInt}, nil, api.ErrArg},
	} {
		m, e := Format(x.r, x.g, x.b)
		if e != x.want || (m != nil) != (e == api.OK) {
			t.Errorf("%d: %v, %v", i, m, e)
		}
		if e != api.OK && x.r.Done() != 0 {
			t.Errorf("%d: it wrote", i)
		}
	}
}

// P8.1, P8.2: what is wrong is told also of a rig that is down; a rig that is down without anything wrong is told as it is.
func TestDown(t *testing.T) {
	g := shape()
	r, m := formatted(t, g, filled(g, 0))
	r.Arm(0)
	if e := m.Commit(filled(g, 0)); e != api.OK || r.Down() {
		t.Error("a Commit of the same bytes wrote", e)
	}
	opens(t, r) // an empty fuse hinders no read
	r.Flush(rig.Fast)
	for i, x := range []struct {
		g    api.Geom
		n    int
		want api.Errno
	}{{g, 126, api.ErrDown}, {g, 125, api.ErrArg}, {ringed(4), 126, api.ErrArg}, {ringed(10), 126, api.ErrArg}} {
		if m, e := Format(r, x.g, make([]byte, x.n)); m != nil || e != x.want {
			t.Error(i, m, e)
		}
	}
	opensNot(t, r, api.ErrDown)
	r.Crash(nil, nil)
	opensAs(t, r, g, filled(g, 0), 6)
}

// P8.2: rigs on which there is nothing.
func TestOpenNothing(t *testing.T) {
	opensNot(t, nil, api.ErrArg)
	for _, n := range []int{2, 3, 15, 4096} {
		r, _ := rig.New(n, 1)
		opensNot(t, r, api.ErrForm)
	}
	r, _ := rig.New(1, 12) // there is no second superblock to be read
	opensNot(t, r, api.ErrArg)
	opensNot(t, strewn(t, shape(), 5), api.ErrForm)
}

// P8.1: a nil Meta.
func TestNil(t *testing.T) {
	var m *Meta
	if m.Geom() != (api.Geom{}) || len(m.Bytes()) != 0 || m.Room() != 0 {
		t.Error(m.Geom(), m.Bytes(), m.Room())
	}
	for _, n := range []int{0, 1, 126} {
		if e := m.Commit(make([]byte, n)); e != api.ErrArg {
			t.Error(n, e)
		}
	}
}

// P8.2: which of two superblocks is the newer one: each begins with another transaction of the ring.
func TestNewer(t *testing.T) {
	g := ringed(9)
	home := filled(g, 0)
	first, second := turned(home, 0), turned(home, 1)
	const no = -1 // not correct
	for _, x := range []struct{ a, b, want int64 }{
		{1, no, 0}, {no, 1, 1}, {no, no, no}, {0, no, 0}, {no, 0, 1},
		{1, 1, 0}, {0, 0, 0}, {1<<32 - 1, 1<<32 - 1, 0},
		{1, 2, 1}, {2, 1, 0}, {0, 1, 1}, {1, 0, 0}, {1, 9, 1}, {9, 1, 0},
		{255, 256, 1}, {256, 255, 0}, {65535, 65536, 1}, {0x01000000, 0x00ffffff, 0}, {0x00ffffff, 0x01000000, 1},
		{1<<31 - 1, 1 << 31, 1}, {1 << 31, 1<<31 - 1, 0}, {0, 1<<32 - 1, 1}, {1<<32 - 1, 0, 0}, {1<<32 - 1, 1, 0},
	} {
		r, _ := formatted(t, g, home)
		laid(t, r, 2, image(1, 0, pageOf(first, 0)), commits(1, 1), image(8, 1, pageOf(second, 1)), image(8, 1, pageOf(second, 1)), commits(8, 2))
		for i, gen := range []int64{x.a, x.b} {
			b := superblock(uint32(gen), g, 2*i, uint32(1+7*i))
			if gen == no {
				b[20]++
			}
			laid(t, r, i, b)
		}
		switch x.want {
		case 0:
			opensAs(t, r, g, first, 7)
		case 1:
			opensAs(t, r, g, second, 6)
		default:
			opensNot(t, r, api.ErrForm)
		}
	}
}

// P8.2: the two superblocks may be of two geometries.
func TestTwoGeometries(t *testing.T) {
	g, h := shape(), ringed(7)
	r, _ := rig.New(geom.Fast(h), geom.Slow(h))
	for i := range 2 {
		laid(t, r, 0, superblock(uint32(2-i), g, 0, 1), superblock(uint32(1+i), h, 0, 1))
		if i == 0 {
			for k := range 3 {
				laid(t, r, geom.Home(g)+k, homePage(k, pageOf(filled(g, 0), k)))
			}
			opensAs(t, r, g, filled(g, 0), 6)
			continue
		}
		for k := range 3 {
			laid(t, r, geom.Home(h)+k, homePage(k, pageOf(filled(h, 1), k)))
		}
		opensAs(t, r, h, filled(h, 1), 7)
	}
}

// agrees checks that Open answers as the disk says; ok tells whether there is something to open.
func agrees(t *testing.T, r *rig.Rig) (ok bool) {
	t.Helper()
	if _, ok := toldOpen(fast(r), r.Len(rig.Slow)); !ok {
		opensNot(t, r, api.ErrForm)
		return false
	}
	opens(t, r)
	return true
}

// P8.2: a superblock with another byte anywhere, with the checksum of what it has then: alone, and beside an older one.
func TestSuperBytes(t *testing.T) {
	g := api.Geom{Blocks: 8, Sets: 2, Ways: 2, Area: 4, Ring: 7}
	old := filled(g, 0)
	young := turned(old, 2)
	for i := range 55 {
		for n := range 256 {
			r := bare(t, g, old)
			laid(t, r, 2+3, image(5, 2, pageOf(young, 2)), commits(5, 1))
			b := superblock(3, g, 3, 5)
			if b[i] == byte(n) {
				continue
			}
			b[i] = byte(n)
			b = marked(b[0], long(b[1:]), low(b[5:]), b[7:55])
			laid(t, r, 0, b)
			opened := agrees(t, r)
			switch {
			case i == 0 || i >= 5 && i < 7+4 || i >= 7+18: // the mark, the index, how the body begins, the zeros behind the numbers
				if opened {
					t.Errorf("byte %d as %d was taken", i, n)
				}
			case i < 5 || i >= 7+14: // the generation and the sequence may be any
				if !opened {
					t.Errorf("byte %d as %d was not taken", i, n)
				}
			}
			_, correct := toldSuper(fast(r), r.Len(rig.Slow), 0)
			laid(t, r, 1, superblock(2, g, 0, 1))
			if agrees(t, r); !correct {
				opensAs(t, r, g, old, 7)
			}
		}
	}
}

// bare returns a rig with the home pages of b and no superblock; it has room for other geometries too.
func bare(t *testing.T, g api.Geom, b []byte) *rig.Rig {
	t.Helper()
	r, _ := rig.New(geom.Fast(g)+20, geom.Slow(g)+20)
	for i := range geom.Pages(g) {
		laid(t, r, geom.Home(g)+i, homePage(i, pageOf(b, i)))
	}
	return r
}

// P8.2: a superblock with another byte anywhere, without its checksum.
func TestSuperBroken(t *testing.T) {
	g := shape()
	for i := range 64 {
		for bit := range 8 {
			r := bare(t, g, filled(g, 0))
			b := superblock(3, g, 0, 1)
			b[i] ^= 1 << bit
			laid(t, r, 0, b)
			opensNot(t, r, api.ErrForm)
			laid(t, r, 0, api.Block{}, b)
			opensNot(t, r, api.ErrForm)
			laid(t, r, 0, superblock(2, g, 0, 1))
			opensAs(t, r, g, filled(g, 0), 6)
		}
	}
}

// P8.2: a superblock whose geometry is not valid or does not fit, or whose place is not less than Ring.
func TestSuperCorrect(t *testing.T) {
	g := shape()
	b := filled(g, 0)
	with := func(change func(*api.Geom)) api.Geom { x := g; change(&x); return x }
	for i, x := range []struct {
		g          api.Geom
		at         int
		fast, slow int // sectors beyond those that g uses
		want       bool
	}{
		{g, 0, 0, 0, true}, {g, 5, 0, 0, true}, {g, 6, 0, 0, false}, {g, 7, 0, 0, false}, {g, 256, 0, 0, false}, {g, 65535, 0, 0, false},
		{g, 0, -1, 0, false}, {g, 0, 0, -1, false}, {g, 0, -1, 1, false}, {g, 0, 1, -1, false}, {g, 0, 1, 1, true}, {g, 5, 1, 1, true},
		{with(func(x *api.Geom) { x.Area = 3 }), 0, 0, -1, true},
		{with(func(x *api.Geom) { x.Area = 0 }), 0, 0, -4, true},
		{with(func(x *api.Geom) { x.Area = 5 }), 0, 0, 0, false},
		{with(func(x *api.Geom) { x.Area = 5 }), 0, 0, 1, true},
		{with(func(x *api.Geom) { x.Area = 200 }), 0, 0, 196, true},
		{with(func(x *api.Geom) { x.Area = 201 }), 0, 0, 300, false},
		{with(func(x *api.Geom) { x.Area = 65535 }), 0, 0, 300, false},
		{with(func(x *api.Geom) { x.Blocks = 0 }), 0, 300, 300, false},
		{with(func(x *api.Geom) { x.Blocks = 65 }), 0, 300, 300, false},
		{with(func(x *api.Geom) { x.Sets = 0 }), 0, 300, 300, false},
		{with(func(x *api.Geom) { x.Sets = 9 }), 0, 300, 300, false},
		{with(func(x *api.Geom) { x.Ways = 0 }), 0, 300, 300, false},
		{with(func(x *api.Geom) { x.Ways = 5 }), 0, 300, 300, false},
		{with(func(x *api.Geom) { x.Ring = 4 }), 0, 300, 300, false},
		{with(func(x *api.Geom) { x.Ring = 257 }), 0, 400, 300, false},
		{api.Geom{}, 0, 300, 300, false},
	} {
		r, _ := rig.New(geom.Fast(g)+x.fast, geom.Slow(g)+x.slow)
		for k := range 3 {
			laid(t, r, geom.Home(g)+k, homePage(k, pageOf(b, k)))
		}
		for sector := range 2 {
			laid(t, r, 0, api.Block{}, api.Block{})
			laid(t, r, sector, superblock(7, x.g, x.at, 1))
			if ok := agrees(t, r); ok != x.want {
				t.Errorf("%d: %v", i, ok)
			}
		}
		if x.want || x.fast < 0 || x.slow < 0 {
			continue
		}
		for sector := range 2 { // the other one is taken, though its generation is less
			laid(t, r, sector, superblock(9, x.g, x.at, 1))
			laid(t, r, 1-sector, superblock(8, g, 4, 3))
			opensAs(t, r, g, b, 6)
		}
	}
}

// P8.2: home pages that are not as described.
func TestHomePages(t *testing.T) {
	for _, g := range []api.Geom{shape(), {Blocks: 1, Sets: 1, Ways: 1, Ring: 4}, {Blocks: 64, Sets: 8, Ways: 4, Area: 200, Ring: 17}} {
		b := filled(g, 0)
		r, _ := formatted(t, g, b)
		n := geom.Pages(g)
		for i := range n {
			body := pageOf(b, i)
			right := homePage(i, body)
			wrong := []api.Block{
				{}, {1}, junk(0, 0), homePage(i+1, body), homePage((i+1)%n, body), homePage(i+256, body), homePage(65535, body), image(0, i, body), image(1, i, body), superblock(1, g, 0, 1), commits(0, i),
			}
			for mark := range 256 {
				wrong = append(wrong, marked(byte(mark), 0, i, body))
			}
			for k := range 64 {
				broken := right
				broken[k] ^= 1
				wrong = append(wrong, broken)
			}
			for _, seq := range []uint32{1, 256, 1 << 16, 1 << 31, math.MaxUint32} {
				wrong = append(wrong, marked(0x48, seq, i, body))
			}
			for _, x := range wrong {
				if x == right {
					continue
				}
				laid(t, r, geom.Home(g)+i, x)
				opensNot(t, r, api.ErrForm)
			}
			laid(t, r, geom.Home(g)+i, right)
			opensAs(t, r, g, b, g.Ring)
		}
	}
}

// P8.2: a home page has to be right even if an image replaces it.
func TestHomePageUnderImage(t *testing.T) {
	g := shape()
	r, m := formatted(t, g, filled(g, 0))
	commit(t, r, m, turned(filled(g, 0), 1))
	laid(t, r, geom.Home(g)+1, api.Block{})
	opensNot(t, r, api.ErrForm)
}

// P8.2, P8.3: bytes beyond the last ones in home pages and images are not told; a checkpoint puts them right.
func TestBeyond(t *testing.T) {
	g := shape() // of the third page 30 bytes are used
	b := filled(g, 0)
	r, _ := formatted(t, g, b)
	over := pageOf(b, 2)
	over[30], over[47] = 1, 2
	laid(t, r, geom.Home(g)+2, homePage(2, over))
	m := opensAs(t, r, g, b, 6)
	done := r.Done()
	if e := m.Commit(b); e != api.OK || r.Done() != done {
		t.Error("a Commit of the same bytes wrote", e)
	}
	b = turned(b, 0, 1)
	commit(t, r, m, b)
	if l := fast(r); l[geom.Home(g)+2] != homePage(2, over) {
		t.Error("a Commit wrote a home page")
	}
	b = turned(b, 0, 1, 2)
	if !commit(t, r, m, b) {
		t.Error("there was room")
	}
	if l := fast(r); l[geom.Home(g)+2] != homePage(2, pageOf(filled(g, 0), 2)) {
		t.Error("the bytes beyond have stayed")
	}
	opensAs(t, r, g, b, 2)

	r, _ = formatted(t, g, b)
	laid(t, r, 2, image(1, 2, over), commits(1, 1))
	want := slices.Concat(b[:96], over[:30])
	m = opensAs(t, r, g, want, 4)
	commit(t, r, m, turned(want, 0, 1, 2))
	opensAs(t, r, g, turned(want, 0, 1, 2), 0)
}

// P8.2: images of pages that do not exist are ignored, but their transactions take their sectors; of several images of a page the last one holds.
func TestImages(t *testing.T) {
	g := ringed(12)
	b := filled(g, 0)
	x, y, z := pageOf(filled(g, 1), 0), pageOf(filled(g, 2), 1), pageOf(filled(g, 3), 0)
	last := slices.Concat(z, y, b[96:])
	for i, c := range []struct {
		l    []api.Block
		want []byte
		room int
	}{
		{[]api.Block{image(1, 0, x), commits(1, 1)}, slices.Concat(x, b[48:]), 10},
		{[]api.Block{image(1, 3, x), commits(1, 1)}, b, 10},
		{[]api.Block{image(1, 65535, x), image(1, 256, x), image(1, 4, x), commits(1, 3)}, b, 8},
		{[]api.Block{image(1, 3, x), image(1, 1, y), image(1, 257, x), commits(1, 3)}, slices.Concat(b[:48], y, b[96:]), 8},
		{[]api.Block{image(1, 0, x), image(1, 1, y), image(1, 0, z), commits(1, 3)}, last, 8},
		{[]api.Block{image(1, 1, y), image(1, 0, x), commits(1, 2), image(2, 0, z), commits(2, 1)}, last, 7},
		{[]api.Block{image(1, 1, y), image(1, 0, z), commits(1, 2), image(2, 9, x), commits(2, 1), image(3, 0, x)}, last, 7},
		{[]api.Block{image(1, 1, y), image(1, 0, z), commits(1, 2), image(3, 0, x), commits(3, 1)}, last, 9},
		{[]api.Block{image(1, 1, y), image(1, 0, x)}, b, 12},
		{slices.Concat(slices.Repeat([]api.Block{image(1, 7, x)}, 11), []api.Block{commits(1, 11)}), b, 0},
		{slices.Concat(slices.Repeat([]api.Block{image(1, 7, x)}, 12)), b, 12},
	} {
		r, _ := formatted(t, g, b)
		laid(t, r, 2, c.l...)
		m := opensAs(t, r, g, c.want, c.room)
		for k := range 9 { // and it goes on
			commit(t, r, m, filled(g, i+k))
			opensAs(t, r, g, filled(g, i+k), m.Room())
		}
	}
}

// P8.2: the transactions begin at the place and the sequence of the superblock, wherever that is; the next ones go on behind them, and round the end of either.
func TestFrom(t *testing.T) {
	g := ringed(7)
	b := filled(g, 0)
	for at := range g.Ring {
		for _, seq := range []uint32{0, 1, 255, 65535, 1 << 31, math.MaxUint32 - 1, math.MaxUint32} {
			for n := range 3 {
				r, _ := formatted(t, g, b)
				laid(t, r, 1, superblock(9, g, at, seq))
				want := b
				for k := range n {
					page := pageOf(filled(g, k+1), k)
					laid(t, r, 2+(at+2*k)%7, image(seq+uint32(k), k, page))
					laid(t, r, 2+(at+2*k+1)%7, commits(seq+uint32(k), 1))
					want = slices.Concat(want[:48*k], page, want[48*k+48:])
				}
				m := opensAs(t, r, g, want, 7-2*n)
				for k := range 6 {
					want = turned(want, k%3, (k+1)%3)
					commit(t, r, m, want)
					opensAs(t, r, g, want, m.Room())
				}
			}
		}
	}
}

// P8.3: the next generation goes to the sector of the older superblock, whichever that is.
func TestGenerations(t *testing.T) {
	g := ringed(5)
	for _, gen := range []uint32{0, 1, 2, 254, 255, 65535, 1<<24 - 1, 1<<31 - 1, 1 << 31, math.MaxUint32 - 9} {
		for newer := range 2 {
			for _, older := range []api.Block{{}, junk(0, 0), superblock(gen, g, 4, 9), superblock(gen/2, g, 4, 9), superblock(0, g, 4, 9)} {
				b := filled(g, 0)
				r, _ := formatted(t, g, b)
				laid(t, r, newer, superblock(gen, g, 2, 3))
				laid(t, r, 1-newer, older)
				x, _ := toldOpen(fast(r), r.Len(rig.Slow)) // of two with the same generation it may be the other one
				m := opensAs(t, r, g, b, 5)
				for k := range 5 {
					b = turned(b, 0, 1, 2)
					if checkpoint := commit(t, r, m, b); checkpoint != (k > 0) {
						t.Fatal(k, checkpoint)
					}
					got := fast(r)[x.newer]
					if k > 0 {
						x.newer = 1 - x.newer
						x.gen++
						got = fast(r)[x.newer]
					}
					if got[0] != 0x53 || long(got[1:]) != x.gen {
						t.Fatalf("generation %d: %v", x.gen, got)
					}
					if k == 2 {
						m = opens(t, r)
					}
				}
			}
		}
	}
}

// P8.3: the errors of Commit; nothing is written.
func TestCommitErrors(t *testing.T) {
	g := shape()
	r, m := formatted(t, g, filled(g, 0))
	done := r.Done()
	for _, n := range []int{0, 1, 48, 125, 127, 144, 1000} {
		if e := m.Commit(slices.Repeat([]byte{7}, n)); e != api.ErrArg {
			t.Error(n, e)
		}
	}
	if e := m.Commit(nil); e != api.ErrArg {
		t.Error(e)
	}
	if e := m.Commit(append(filled(g, 0), 0)); e != api.ErrArg {
		t.Error(e)
	}
	if e := m.Commit(filled(g, 0)[:125]); e != api.ErrArg {
		t.Error(e)
	}
	if r.Done() != done {
		t.Error("it wrote")
	}
	says(t, m, g, filled(g, 0), 6)
	r.Arm(0)
	if e := m.Commit(nil); e != api.ErrArg || r.Down() {
		t.Error(e)
	}
	if e := m.Commit(filled(g, 1)); e != api.ErrDown || !r.Down() {
		t.Error(e)
	}
}

// P8.3: a Commit of the same bytes writes nothing, also where no room is left, and after others.
func TestSame(t *testing.T) {
	g := ringed(5)
	b := filled(g, 0)
	r, m := formatted(t, g, b)
	for k := range 8 {
		was, done, room := fast(r), r.Done(), m.Room()
		r.Arm(0)
		if e := m.Commit(slices.Clone(b)); e != api.OK || r.Down() || r.Done() != done || !slices.Equal(fast(r), was) {
			t.Fatal(k, e)
		}
		r.Arm(-1)
		says(t, m, g, b, room)
		b = turned(b, k%3)
		commit(t, r, m, b)
	}
}

// P8.3: each byte matters, and takes the page that it is in.
func TestEachByte(t *testing.T) {
	for _, g := range []api.Geom{ringed(12), {Blocks: 9, Sets: 5, Ways: 1, Area: 1, Ring: 13}, {Blocks: 9, Sets: 2, Ways: 3, Area: 3, Ring: 14}} {
		b := filled(g, 0)
		r, m := formatted(t, g, b)
		for i := range b {
			for _, n := range []byte{1, 0x80, 0xff} {
				b = slices.Clone(b)
				b[i] ^= n
				x, _ := toldOpen(fast(r), r.Len(rig.Slow))
				if !commit(t, r, m, b) && m.Room() != x.room-2 {
					t.Fatal(i, m.Room())
				}
				if got := fast(r)[2+x.at]; got != image(x.seq, i/48, pageOf(b, i/48)) {
					t.Fatal(i, got)
				}
			}
		}
	}
}

// P8.3: every set of pages, with every room that there can be: what takes just Room sectors is appended without a checkpoint, what takes one more with it.
func TestRooms(t *testing.T) {
	met := map[int]int{} // how many sectors more than Room it takes
	for ring := 5; ring < 16; ring++ {
		for ahead := range 1 << 3 {
			for then := range 1 << 3 {
				for set := 1; set < 1<<3; set++ {
					g := ringed(ring)
					b := filled(g, 0)
					r, m := formatted(t, g, b)
					for _, x := range []int{ahead, then} {
						b = turned(b, pagesOf(x)...)
						commit(t, r, m, b)
					}
					room, done := m.Room(), r.Done()
					pages := pagesOf(set)
					took := len(pages) + 1
					b = turned(b, pages...)
					checkpoint := commit(t, r, m, b)
					if checkpoint != (took > room) {
						t.Fatal(ring, ahead, then, set, checkpoint)
					}
					if !checkpoint && (m.Room() != room-took || r.Done() != done+took+2) || checkpoint && m.Room() != ring-took {
						t.Fatal(ring, ahead, then, set, m.Room(), r.Done()-done)
					}
					opensAs(t, r, g, b, m.Room())
					met[took-room]++
				}
			}
		}
	}
	if met[0] == 0 || met[1] == 0 {
		t.Error(met)
	}
}

// pagesOf returns the pages whose bits are set.
func pagesOf(set int) []int {
	var l []int
	for i := range 8 {
		if set>>i&1 == 1 {
			l = append(l, i)
		}
	}
	return l
}

// P8.3: a checkpoint writes what was committed last, only the home pages that differ, and none if none do.
func TestCheckpoint(t *testing.T) {
	g := ringed(5)
	b := filled(g, 0)
	r, m := formatted(t, g, b)
	commit(t, r, m, turned(b, 1))
	commit(t, r, m, b) // as it was
	done := r.Done()
	c := turned(b, 0, 2)
	if !commit(t, r, m, c) || r.Done() != done+3+2+3 {
		t.Error(r.Done() - done)
	}
	commit(t, r, m, turned(c, 2)) // the last two sectors
	done = r.Done()
	d := turned(c, 2, 2, 1)
	if !commit(t, r, m, d) || r.Done() != done+2+3+2+3 {
		t.Error(r.Done() - done)
	}
	l := fast(r)
	for i := range 3 {
		if want := homePage(i, pageOf(turned(c, 2), i)); l[geom.Home(g)+i] != want {
			t.Errorf("page %d: %v, want %v", i, l[geom.Home(g)+i], want)
		}
	}
	if l[0] != superblock(3, g, (4+5)%5, 5) || l[1] != superblock(2, g, 4, 3) {
		t.Error(l[:2])
	}
	opensAs(t, r, g, d, 2)
}

// P8.3: long sequences of commits on every geometry, each of them held against what the disk says, some behind an Open.
func TestLong(t *testing.T) {
	for k, g := range shapes() {
		rnd := rand.New(rand.NewSource(int64(k)))
		b := filled(g, 0)
		r, m := formatted(t, g, b)
		checkpoints := 0
		for range 150 {
			b = varied(rnd, b)
			if commit(t, r, m, b) {
				checkpoints++
			}
			r.Crash(nil, nil) // all of it is durable
			if o := opensAs(t, r, g, b, m.Room()); rnd.Intn(4) == 0 {
				m = o
			}
		}
		if checkpoints == 0 {
			t.Error(g, "no checkpoint")
		}
	}
}

// varied returns b with some pages changed: none, one, some or all.
func varied(rnd *rand.Rand, b []byte) []byte {
	b = slices.Clone(b)
	most := rnd.Intn(4)
	for i := 0; i < len(b); i += 48 {
		if rnd.Intn(3) < most {
			b[min(i+rnd.Intn(48), len(b)-1)] = byte(rnd.Intn(256))
		}
	}
	return b
}

// Rule 2: arguments are neither changed nor kept, and results are new.
func TestOwn(t *testing.T) {
	g := shape()
	arg := append(filled(g, 0), 77, 78, 79)
	b := arg[:126]
	r := strewn(t, g, 0)
	m, e := Format(r, g, b)
	if e != api.OK || !slices.Equal(arg, append(filled(g, 0), 77, 78, 79)) {
		t.Fatal(e, arg)
	}
	for i := range 2 {
		if i == 1 {
			m = opens(t, r)
		}
		want := m.Bytes()
		clear(arg)
		says(t, m, g, want, m.Room())
		one, two := m.Bytes(), m.Bytes()
		clear(one[:cap(one)])
		if !slices.Equal(two, want) {
			t.Error("two results share their bytes")
		}
		says(t, m, g, want, m.Room())
		copy(arg, turned(want, 0, 2))
		arg[126], arg[127] = 5, 6
		commit(t, r, m, b)
		if !slices.Equal(b, turned(want, 0, 2)) || arg[126] != 5 || arg[127] != 6 {
			t.Error("Commit changed its argument")
		}
		clear(arg)
		says(t, m, g, turned(want, 0, 2), m.Room())
	}
}

// Rule 4: what is on one rig does not touch what is on another.
func TestApart(t *testing.T) {
	g, h := shape(), ringed(9)
	r, m := formatted(t, g, filled(g, 0))
	s, n := formatted(t, h, filled(h, 1))
	for k := range 9 {
		commit(t, r, m, filled(g, k))
		commit(t, s, n, filled(h, 2*k))
		says(t, m, g, filled(g, k), m.Room())
		says(t, n, h, filled(h, 2*k), n.Room())
	}
	// what was formatted anew has nothing of what was there
	m, e := Format(r, g, filled(g, 3))
	if e != api.OK {
		t.Fatal(e)
	}
	says(t, m, g, filled(g, 3), 6)
	opensAs(t, r, g, filled(g, 3), 6)
}
