package disk

import (
	"bytes"
	"math"
	"math/rand"
	"slices"
	"testing"

	"revetment/api"
)

// told follows the document's words: it keeps all versions of each sector.
type told struct {
	contents []api.Block
	versions [][]api.Block
}

func newTold(n int) *told {
	return &told{contents: make([]api.Block, n), versions: make([][]api.Block, n)}
}

func (m *told) read(i int) api.Block {
	if l := m.versions[i]; len(l) > 0 {
		return l[len(l)-1]
	}
	return m.contents[i]
}

func (m *told) loose() []int {
	var l []int
	for i := range m.versions {
		if len(m.versions[i]) > 0 {
			l = append(l, i)
		}
	}
	return l
}

func (m *told) flush() {
	for _, i := range m.loose() {
		m.contents[i] = m.read(i)
		m.versions[i] = nil
	}
}

func (m *told) crash(pick []byte) {
	for k, i := range m.loose() {
		v := 0
		if k < len(pick) {
			v = int(pick[k]) % (len(m.versions[i]) + 1)
		}
		if v != 0 {
			m.contents[i] = m.versions[i][v-1]
		}
		m.versions[i] = nil
	}
}

// block returns a block of its own for each n below 65536; none of them is all zeros.
func block(n int) api.Block {
	var b api.Block
	for i := range b {
		b[i] = byte(n>>(8*(i%2))) + byte(i)
	}
	return b
}

func made(t *testing.T, n int) *Disk {
	t.Helper()
	d, e := New(n)
	if e != api.OK || d == nil {
		t.Fatalf("New(%d): %v, %v", n, d, e)
	}
	return d
}

func write(t *testing.T, d *Disk, i int, b api.Block) {
	t.Helper()
	if e := d.Write(i, b); e != api.OK {
		t.Fatalf("Write(%d): %v", i, e)
	}
}

func flush(t *testing.T, d *Disk) {
	t.Helper()
	if e := d.Flush(); e != api.OK {
		t.Fatalf("Flush: %v", e)
	}
	if l := d.Loose(); len(l) != 0 {
		t.Fatalf("loose after Flush: %v", l)
	}
}

func reads(t *testing.T, d *Disk, i int, want api.Block) {
	t.Helper()
	if b, e := d.Read(i); e != api.OK || b != want {
		t.Errorf("Read(%d) = %v, %v, want %v", i, b, e, want)
	}
}

// P3.1: which sizes there are.
func TestNew(t *testing.T) {
	for _, n := range []int{1, 2, 100, api.MaxSector - 1, api.MaxSector} {
		d := made(t, n)
		if d.Len() != n {
			t.Errorf("Len of %d sectors = %d", n, d.Len())
		}
		if l := d.Loose(); len(l) != 0 {
			t.Errorf("a new disk of %d sectors has loose ones: %v", n, l)
		}
		for i := range n {
			reads(t, d, i, api.Block{})
		}
	}
	for _, n := range []int{0, -1, api.MaxSector + 1, math.MinInt, math.MaxInt, 1 << 32, 1<<32 + 1} {
		if d, e := New(n); d != nil || e != api.ErrArg {
			t.Errorf("New(%d) = %v, %v", n, d, e)
		}
	}
}

// P3.1: which sectors there are, and that an error changes nothing.
func TestSectors(t *testing.T) {
	for _, n := range []int{1, 7, api.MaxSector} {
		d := made(t, n)
		write(t, d, 0, block(1))
		write(t, d, n-1, block(2))
		want := d.Loose()
		for _, i := range []int{-1, n, n + 1, math.MinInt, math.MaxInt, 1 << 32, -1 << 32} {
			if b, e := d.Read(i); e != api.ErrArg || b != (api.Block{}) {
				t.Errorf("%d sectors: Read(%d) = %v, %v", n, i, b, e)
			}
			if e := d.Write(i, block(9)); e != api.ErrArg {
				t.Errorf("%d sectors: Write(%d) = %v", n, i, e)
			}
		}
		reads(t, d, n-1, block(2))
		if n > 1 {
			reads(t, d, 0, block(1))
		}
		if d.Len() != n || !slices.Equal(d.Loose(), want) {
			t.Errorf("%d sectors: Len %d, Loose %v", n, d.Len(), d.Loose())
		}
	}
}

// P3.1: each sector, the first and the last one among them, keeps its own bytes, and Read returns the last version.
func TestEachSector(t *testing.T) {
	d := made(t, api.MaxSector)
	for round := range 3 {
		for i := range d.Len() {
			write(t, d, i, block(i+1000*round))
		}
		for i := range d.Len() {
			reads(t, d, i, block(i+1000*round))
		}
		if round == 1 {
			flush(t, d)
			for i := range d.Len() {
				reads(t, d, i, block(i+1000))
			}
		}
	}
	if l := d.Loose(); len(l) != api.MaxSector || l[0] != 0 || !slices.IsSorted(l) {
		t.Error(len(l))
	}
}

// P3.1: which sectors are loose.
func TestLoose(t *testing.T) {
	d := made(t, 10)
	for _, x := range []struct {
		i    int
		want []int
	}{{7, []int{7}}, {9, []int{7, 9}}, {7, []int{7, 9}}, {0, []int{0, 7, 9}}, {3, []int{0, 3, 7, 9}}, {9, []int{0, 3, 7, 9}}} {
		write(t, d, x.i, block(x.i))
		if l := d.Loose(); !slices.Equal(l, x.want) {
			t.Errorf("after writing %d: %v, want %v", x.i, l, x.want)
		}
	}
	flush(t, d)
	write(t, d, 3, block(3)) // what the sector contains already
	if l := d.Loose(); !slices.Equal(l, []int{3}) {
		t.Errorf("after writing the same once more: %v", l)
	}
	write(t, d, 4, api.Block{})
	if l := d.Loose(); !slices.Equal(l, []int{3, 4}) {
		t.Errorf("after writing zeros: %v", l)
	}
	d.Crash(nil)
	if l := d.Loose(); len(l) != 0 {
		t.Errorf("after a crash: %v", l)
	}
}

// P3.1: Flush makes the last version the contents; the ones ahead of it are gone.
func TestFlush(t *testing.T) {
	d := made(t, 4)
	flush(t, d)
	write(t, d, 1, block(1))
	write(t, d, 1, block(2))
	write(t, d, 3, block(3))
	flush(t, d)
	reads(t, d, 1, block(2))
	flush(t, d)
	write(t, d, 1, block(4))
	d.Crash([]byte{2}) // 2 modulo 2: what was flushed
	for i, want := range []api.Block{{}, block(2), {}, block(3)} {
		reads(t, d, i, want)
	}
}

// P3.1: a nil disk.
func TestNil(t *testing.T) {
	var d *Disk
	if d.Len() != 0 || len(d.Loose()) != 0 {
		t.Error(d.Len(), d.Loose())
	}
	for _, i := range []int{-1, 0, 1, math.MinInt, math.MaxInt} {
		if b, e := d.Read(i); e != api.ErrArg || b != (api.Block{}) {
			t.Errorf("Read(%d) = %v, %v", i, b, e)
		}
		if e := d.Write(i, block(1)); e != api.ErrArg {
			t.Errorf("Write(%d) = %v", i, e)
		}
	}
	if e := d.Flush(); e != api.ErrArg {
		t.Errorf("Flush = %v", e)
	}
	d.Crash(nil)
	d.Crash([]byte{1, 2})
}

// P3.2: the chapter's example.
func TestExample(t *testing.T) {
	d := made(t, 8)
	write(t, d, 5, block(1))
	write(t, d, 5, block(2))
	d.Crash([]byte{1})
	reads(t, d, 5, block(1))
}

// P3.2: every byte against every number of versions, beyond which no byte can reach among them.
func TestEachByte(t *testing.T) {
	for _, n := range []int{1, 2, 3, 4, 127, 128, 253, 254, 255, 256, 257, 258, 300, 600} {
		for p := range 256 {
			d := made(t, 3)
			write(t, d, 1, block(9999))
			flush(t, d)
			for v := range n {
				write(t, d, 1, block(v+1))
			}
			reads(t, d, 1, block(n))
			d.Crash([]byte{byte(p)})
			want := block(9999)
			if v := p % (n + 1); v > 0 {
				want = block(v)
			}
			if b, e := d.Read(1); e != api.OK || b != want {
				t.Fatalf("%d versions, byte %d: wrong contents", n, p)
			}
			reads(t, d, 0, api.Block{})
			reads(t, d, 2, api.Block{})
		}
	}
}

// P3.1: of many versions the last one is read and flushed.
func TestManyVersions(t *testing.T) {
	d := made(t, 2)
	for v := range 1000 {
		write(t, d, 1, block(v))
		reads(t, d, 1, block(v))
	}
	if n := len(d.sectors[1].versions); n > 256 {
		t.Errorf("%d versions are kept, which nothing asks for", n)
	}
	flush(t, d)
	reads(t, d, 1, block(999))
	write(t, d, 1, block(5))
	d.Crash([]byte{3}) // 3 modulo 2: only what was written since counts
	reads(t, d, 1, block(5))
}

// P3.2: the bytes belong to the loose sectors in their order, not to sectors or writes; where there is none, it is 0.
func TestPicks(t *testing.T) {
	for _, x := range []struct {
		pick []byte
		want [6]int // by sector
	}{
		{nil, [6]int{0, 1, 2, 3, 4, 5}},
		{[]byte{}, [6]int{0, 1, 2, 3, 4, 5}},
		{[]byte{1}, [6]int{0, 11, 2, 3, 4, 5}},
		{[]byte{0, 1}, [6]int{0, 1, 2, 13, 4, 5}},
		{[]byte{0, 2}, [6]int{0, 1, 2, 23, 4, 5}},
		{[]byte{0, 3}, [6]int{0, 1, 2, 33, 4, 5}},
		{[]byte{0, 0, 1}, [6]int{0, 1, 2, 3, 4, 15}},
		{[]byte{1, 1, 1}, [6]int{0, 11, 2, 13, 4, 15}},
		{[]byte{1, 3, 2}, [6]int{0, 11, 2, 33, 4, 25}},
		{[]byte{2, 4, 3}, [6]int{0, 1, 2, 3, 4, 5}},
		{[]byte{3, 5, 4}, [6]int{0, 11, 2, 13, 4, 15}},
		{[]byte{255, 255, 255}, [6]int{0, 11, 2, 33, 4, 5}},
		{[]byte{1, 2, 2, 1, 1, 1, 1}, [6]int{0, 11, 2, 23, 4, 25}},
		{[]byte{0, 0, 0, 9, 9, 9}, [6]int{0, 1, 2, 3, 4, 5}},
	} {
		d := made(t, 6)
		for i := range 6 {
			write(t, d, i, block(i))
		}
		flush(t, d)
		for _, n := range []int{13, 15, 23, 11, 25, 33} { // the last digit is the sector
			write(t, d, n%10, block(n))
		}
		given := bytes.Clone(x.pick)
		d.Crash(x.pick)
		if !bytes.Equal(x.pick, given) {
			t.Errorf("the argument was changed: %v, was %v", x.pick, given)
		}
		for i, n := range x.want {
			if b, _ := d.Read(i); b != block(n) {
				t.Errorf("pick %v: sector %d is not %d", x.pick, i, n)
			}
		}
		if l := d.Loose(); len(l) != 0 {
			t.Errorf("pick %v: loose after the crash: %v", x.pick, l)
		}
		d.Crash([]byte{1, 1, 1}) // nothing is loose any more
		for i, n := range x.want {
			if b, _ := d.Read(i); b != block(n) {
				t.Errorf("pick %v: sector %d is not %d after another crash", x.pick, i, n)
			}
		}
	}
}

// P3.3: what was flushed and not written since survives every crash.
func TestFlushedSurvives(t *testing.T) {
	for p := range 256 {
		d := made(t, 5)
		for i := range 5 {
			write(t, d, i, block(100+i))
			write(t, d, i, block(i))
		}
		flush(t, d)
		write(t, d, 2, block(50))
		d.Crash(bytes.Repeat([]byte{byte(p)}, 5))
		for _, i := range []int{0, 1, 3, 4} {
			reads(t, d, i, block(i))
		}
		write(t, d, 0, block(60))
		d.Crash(bytes.Repeat([]byte{byte(p)}, 5))
		for _, i := range []int{1, 3, 4} {
			reads(t, d, i, block(i))
		}
	}
}

// P3.1 to P3.3: long sequences of calls, held against the document's words.
func TestSequences(t *testing.T) {
	for seed := range int64(60) {
		r := rand.New(rand.NewSource(seed))
		n := 1 + r.Intn(12)
		d, m := made(t, n), newTold(n)
		for step := range 1500 {
			switch k := r.Intn(100); {
			case k < 90-int(seed%3)*15:
				i, b := r.Intn(n), block(step)
				write(t, d, i, b)
				m.versions[i] = append(m.versions[i], b)
			case k < 94:
				flush(t, d)
				m.flush()
			default:
				pick := make([]byte, r.Intn(n+3))
				r.Read(pick)
				d.Crash(pick)
				m.crash(pick)
			}
			if !slices.Equal(d.Loose(), m.loose()) {
				t.Fatalf("seed %d, step %d: Loose = %v, want %v", seed, step, d.Loose(), m.loose())
			}
			for i := range n {
				if b, e := d.Read(i); e != api.OK || b != m.read(i) {
					t.Fatalf("seed %d, step %d: sector %d differs", seed, step, i)
				}
			}
		}
	}
}

// What Loose returned is the caller's, its spare capacity too.
func TestLooseIsNew(t *testing.T) {
	d := made(t, 9)
	for i := range 5 {
		write(t, d, i, block(i))
	}
	one, other := d.Loose(), d.Loose()
	for i := range cap(one) {
		one[:cap(one)][i] = -7
	}
	if want := []int{0, 1, 2, 3, 4}; !slices.Equal(other, want) || !slices.Equal(d.Loose(), want) {
		t.Error(other, d.Loose())
	}
	for i := range 5 {
		reads(t, d, i, block(i))
	}
}

// Two disks have nothing in common, and a read changes nothing.
func TestDisksAreApart(t *testing.T) {
	a, b := made(t, 3), made(t, 3)
	write(t, a, 1, block(1))
	write(t, b, 2, block(2))
	flush(t, b)
	for range 3 {
		reads(t, a, 1, block(1))
		reads(t, a, 2, api.Block{})
		reads(t, b, 1, api.Block{})
		reads(t, b, 2, block(2))
	}
	if l := a.Loose(); !slices.Equal(l, []int{1}) {
		t.Error(l)
	}
	b.Crash([]byte{1})
	reads(t, a, 1, block(1))
	a.Crash([]byte{0})
	reads(t, a, 1, api.Block{})
	reads(t, b, 2, block(2))
}

// What the caller does to the bytes that it gave to Crash has no effect afterwards.
func TestPickIsNotKept(t *testing.T) {
	d := made(t, 2)
	write(t, d, 0, block(1))
	pick := []byte{1, 1}
	d.Crash(pick[:1])
	write(t, d, 0, block(2))
	pick[0] = 0
	reads(t, d, 0, block(2))
	d.Crash(nil)
	reads(t, d, 0, block(1))
	if pick[1] != 1 {
		t.Error("the spare capacity of the argument was changed")
	}
}
