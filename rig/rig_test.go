package rig

import (
	"bytes"
	"math"
	"math/rand"
	"slices"
	"testing"

	"revetment/api"
	"revetment/disk"
)

// told follows the document's words, with a disk of layer 3 for each disk.
type told struct {
	disks     [2]*disk.Disk
	fuse      int
	fused     bool
	down      bool
	succeeded int
}

func newTold(t *testing.T, fast, slow int) *told {
	t.Helper()
	m := &told{}
	for dev, n := range []int{fast, slow} {
		d, e := disk.New(n)
		if e != api.OK {
			t.Fatal(e)
		}
		m.disks[dev] = d
	}
	return m
}

func (m *told) exists(dev, i int) bool {
	return (dev == 0 || dev == 1) && 0 <= i && i < m.disks[dev].Len()
}

// fails says whether a write or a flush fails by the fuse, and burns the fuse.
func (m *told) fails() bool {
	if m.fused && m.fuse == 0 {
		m.down = true
	}
	if m.down {
		return true
	}
	if m.fused {
		m.fuse--
	}
	m.succeeded++
	return false
}

func (m *told) read(dev, i int) (api.Block, api.Errno) {
	if !m.exists(dev, i) {
		return api.Block{}, api.ErrArg
	}
	if m.down {
		return api.Block{}, api.ErrDown
	}
	return m.disks[dev].Read(i)
}

func (m *told) write(dev, i int, b api.Block) api.Errno {
	if !m.exists(dev, i) {
		return api.ErrArg
	}
	if m.fails() {
		return api.ErrDown
	}
	return m.disks[dev].Write(i, b)
}

func (m *told) flush(dev int) api.Errno {
	if !m.exists(dev, 0) {
		return api.ErrArg
	}
	if m.fails() {
		return api.ErrDown
	}
	return m.disks[dev].Flush()
}

func (m *told) crash(fast, slow []byte) {
	m.disks[0].Crash(fast)
	m.disks[1].Crash(slow)
	m.fused, m.down = false, false
}

// block returns a block of its own for each n below 65536; none of them is all zeros.
func block(n int) api.Block {
	var b api.Block
	for i := range b {
		b[i] = byte(n>>(8*(i%2))) + byte(i)
	}
	return b
}

func made(t *testing.T, fast, slow int) *Rig {
	t.Helper()
	r, e := New(fast, slow)
	if e != api.OK || r == nil {
		t.Fatalf("New(%d, %d): %v, %v", fast, slow, r, e)
	}
	return r
}

func write(t *testing.T, r *Rig, dev, i int, b api.Block, want api.Errno) {
	t.Helper()
	if e := r.Write(dev, i, b); e != want {
		t.Errorf("Write(%d, %d) = %v, want %v", dev, i, e, want)
	}
}

func flush(t *testing.T, r *Rig, dev int, want api.Errno) {
	t.Helper()
	if e := r.Flush(dev); e != want {
		t.Errorf("Flush(%d) = %v, want %v", dev, e, want)
	}
}

func reads(t *testing.T, r *Rig, dev, i int, want api.Block) {
	t.Helper()
	if b, e := r.Read(dev, i); e != api.OK || b != want {
		t.Errorf("Read(%d, %d) = %v, %v, want %v", dev, i, b, e, want)
	}
}

func refuses(t *testing.T, r *Rig, dev, i int, want api.Errno) {
	t.Helper()
	if b, e := r.Read(dev, i); e != want || b != (api.Block{}) {
		t.Errorf("Read(%d, %d) = %v, %v, want %v", dev, i, b, e, want)
	}
}

func is(t *testing.T, r *Rig, down bool, done int) {
	t.Helper()
	if r.Down() != down || r.Done() != done {
		t.Errorf("down %v, done %d, want %v, %d", r.Down(), r.Done(), down, done)
	}
}

// bringDown brings a rig down by a flush of its fast disk that fails.
func bringDown(t *testing.T, r *Rig) {
	t.Helper()
	r.Arm(0)
	flush(t, r, Fast, api.ErrDown)
	if !r.Down() {
		t.Fatal("not down")
	}
}

// P4.1: the numbers of the disks, which other layers and their callers write out.
func TestDevices(t *testing.T) {
	if Fast != 0 || Slow != 1 {
		t.Error(Fast, Slow)
	}
}

// P4.1: which sizes there are, for either disk, and that a new rig is up and has no fuse.
func TestNew(t *testing.T) {
	good := []int{1, 2, 100, api.MaxSector - 1, api.MaxSector}
	bad := []int{0, -1, api.MaxSector + 1, math.MinInt, math.MaxInt, 1 << 32, 1<<32 + 1}
	for _, f := range good {
		for _, s := range good {
			r := made(t, f, s)
			if r.Len(Fast) != f || r.Len(Slow) != s {
				t.Errorf("New(%d, %d): Len %d, %d", f, s, r.Len(Fast), r.Len(Slow))
			}
			is(t, r, false, 0)
			for _, i := range []int{0, f - 1} {
				reads(t, r, Fast, i, api.Block{})
			}
			for _, i := range []int{0, s - 1} {
				reads(t, r, Slow, i, api.Block{})
			}
			for k := range 50 {
				write(t, r, k%2, 0, block(k), api.OK)
			}
			is(t, r, false, 50)
		}
	}
	for _, b := range bad {
		for _, other := range slices.Concat(good, bad) {
			if r, e := New(b, other); r != nil || e != api.ErrArg {
				t.Errorf("New(%d, %d) = %v, %v", b, other, r, e)
			}
			if r, e := New(other, b); r != nil || e != api.ErrArg {
				t.Errorf("New(%d, %d) = %v, %v", other, b, r, e)
			}
		}
	}
}

// P4.1: the sectors that each disk has, the last one of the larger disk among them, are its own.
func TestEachSector(t *testing.T) {
	r := made(t, 5, api.MaxSector)
	sizes := []int{5, api.MaxSector}
	for dev, n := range sizes {
		for i := range n {
			write(t, r, dev, i, block(1+i+10000*dev), api.OK)
		}
	}
	for dev, n := range sizes {
		for i := range n {
			reads(t, r, dev, i, block(1+i+10000*dev))
		}
		flush(t, r, dev, api.OK)
	}
	is(t, r, false, 5+api.MaxSector+2)
	r.Crash(nil, nil)
	for dev, n := range sizes {
		for i := range n {
			reads(t, r, dev, i, block(1+i+10000*dev))
		}
	}
}

// places returns places that do not exist on a rig with disks of these sizes.
func places(fast, slow int) [][2]int {
	var l [][2]int
	for _, dev := range []int{-1, 2, 3, -2, math.MinInt, math.MaxInt, 1 << 32, 1<<32 + 1} {
		for _, i := range []int{-1, 0, 1, fast - 1, slow - 1, max(fast, slow)} {
			l = append(l, [2]int{dev, i})
		}
	}
	for dev, n := range []int{fast, slow} {
		for _, i := range []int{-1, n, n + 1, math.MinInt, math.MaxInt, 1 << 32, -1 << 32} {
			l = append(l, [2]int{dev, i})
		}
	}
	return l
}

// refusesAll asks for all that does not exist, which is ErrArg whatever state the rig is in, and has no effect.
func refusesAll(t *testing.T, r *Rig, fast, slow int) {
	t.Helper()
	down, done := r.Down(), r.Done()
	for _, x := range places(fast, slow) {
		refuses(t, r, x[0], x[1], api.ErrArg)
		write(t, r, x[0], x[1], block(9), api.ErrArg)
		if x[0] != Fast && x[0] != Slow {
			flush(t, r, x[0], api.ErrArg)
			if n := r.Len(x[0]); n != 0 {
				t.Errorf("Len(%d) = %d", x[0], n)
			}
		}
	}
	is(t, r, down, done)
}

// P4.1: ErrArg comes ahead of ErrDown; what does not exist brings no rig down, burns no fuse, and does not count.
func TestPlacesThatDoNotExist(t *testing.T) {
	for _, x := range [][2]int{{1, 1}, {3, 7}, {7, 3}, {1, api.MaxSector}} {
		r := made(t, x[0], x[1])
		write(t, r, Fast, x[0]-1, block(1), api.OK)
		write(t, r, Slow, x[1]-1, block(2), api.OK)
		refusesAll(t, r, x[0], x[1])
		r.Arm(2)
		refusesAll(t, r, x[0], x[1])
		write(t, r, Fast, 0, block(1), api.OK)
		refusesAll(t, r, x[0], x[1])
		flush(t, r, Slow, api.OK)
		refusesAll(t, r, x[0], x[1]) // the fuse is 0
		reads(t, r, Fast, x[0]-1, block(1))
		reads(t, r, Slow, x[1]-1, block(2))
		write(t, r, Slow, 0, block(3), api.ErrDown)
		refusesAll(t, r, x[0], x[1])
		is(t, r, true, 4)
		r.Crash(nil, nil)
		refusesAll(t, r, x[0], x[1])
		reads(t, r, Slow, x[1]-1, block(2))
		if r.Len(Fast) != x[0] || r.Len(Slow) != x[1] {
			t.Error(r.Len(Fast), r.Len(Slow))
		}
	}
}

// P4.1: the chapter's example.
func TestExample(t *testing.T) {
	r := made(t, 4, 4)
	r.Arm(1)
	write(t, r, Fast, 0, block(1), api.OK)
	write(t, r, Fast, 0, block(2), api.ErrDown)
	is(t, r, true, 1)
}

// P4.3: after Arm(n) exactly n writes and flushes succeed, whichever and on whichever disk, and whatever else is called meanwhile.
func TestExactlyAsManySucceed(t *testing.T) {
	for n := range 40 {
		for kind := range 6 {
			r := made(t, 2, 2)
			for k := range 3 {
				write(t, r, k%2, 1, block(k), api.OK)
			}
			r.Arm(n)
			if r.Down() {
				t.Fatalf("Arm(%d) brought the rig down", n)
			}
			succeeded := 0
			for k := range n + 5 {
				refusesAll(t, r, 2, 2)
				var e api.Errno
				switch kind {
				case 0, 1:
					e = r.Write(kind, k%2, block(k))
				case 2, 3:
					e = r.Flush(kind - 2)
				case 4:
					e = r.Write(k%2, 0, block(k))
				default:
					if e = r.Flush(k % 2); k%3 == 0 && e == api.OK {
						succeeded++
						e = r.Write(0, 1, block(k))
					}
				}
				if e == api.OK {
					succeeded++
				} else if e != api.ErrDown || !r.Down() {
					t.Fatalf("Arm(%d), kind %d: %v, down %v", n, kind, e, r.Down())
				}
				if r.Down() != (e == api.ErrDown) {
					t.Fatalf("Arm(%d), kind %d: down %v after %v", n, kind, r.Down(), e)
				}
			}
			if succeeded != n || r.Done() != n+3 {
				t.Errorf("Arm(%d), kind %d: %d succeeded, Done %d", n, kind, succeeded, r.Done())
			}
		}
	}
}

// P4.1: a fuse of 0 leaves the rig up, and reads succeed, until a write or a flush is tried.
func TestBurntFuse(t *testing.T) {
	for _, n := range []int{0, 1} {
		for kind := range 4 {
			r := made(t, 3, 3)
			write(t, r, Fast, 1, block(1), api.OK)
			write(t, r, Slow, 2, block(2), api.OK)
			r.Arm(n)
			for range n {
				write(t, r, Slow, 2, block(3), api.OK)
			}
			for range 9 {
				reads(t, r, Fast, 1, block(1))
				reads(t, r, Slow, 2, block(2+n))
			}
			is(t, r, false, 2+n)
			if kind < 2 {
				write(t, r, kind, 0, block(4), api.ErrDown)
			} else {
				flush(t, r, kind-2, api.ErrDown)
			}
			is(t, r, true, 2+n)
			for dev := range 2 {
				for i := range 3 {
					refuses(t, r, dev, i, api.ErrDown)
					write(t, r, dev, i, block(5), api.ErrDown)
				}
				flush(t, r, dev, api.ErrDown)
				if r.Len(dev) != 3 {
					t.Error(r.Len(dev))
				}
			}
			is(t, r, true, 2+n)
		}
	}
}

// P4.1: a write that fails adds no version, and a flush that fails settles nothing.
func TestFailuresHaveNoEffect(t *testing.T) {
	for dev := range 2 {
		r := made(t, 2, 2)
		write(t, r, dev, 0, block(1), api.OK)
		r.Arm(0)
		write(t, r, dev, 0, block(2), api.ErrDown)
		write(t, r, dev, 1, block(3), api.ErrDown)
		r.Crash([]byte{2, 1}, []byte{2, 1}) // 2 modulo 2: with the failed write among the versions it would be 2 modulo 3
		reads(t, r, dev, 0, api.Block{})
		reads(t, r, dev, 1, api.Block{})

		write(t, r, dev, 0, block(4), api.OK)
		r.Arm(0)
		flush(t, r, dev, api.ErrDown)
		flush(t, r, dev, api.ErrDown)
		r.Crash(nil, nil)
		reads(t, r, dev, 0, api.Block{})
		is(t, r, false, 2)
	}
}

// P4.1: Arm sets the fuse anew, whatever it was; a negative one is none.
func TestArm(t *testing.T) {
	for _, x := range []struct {
		arms  []int
		fuse  int // how many succeed then; -1: all
		spent int // writes between the arms
	}{
		{nil, -1, 0},
		{[]int{0}, 0, 0},
		{[]int{1}, 1, 0},
		{[]int{7}, 7, 0},
		{[]int{-1}, -1, 0},
		{[]int{-7}, -1, 0},
		{[]int{math.MinInt}, -1, 0},
		{[]int{math.MaxInt}, -1, 0}, // more than are tried here
		{[]int{1 << 32}, -1, 0},
		{[]int{3, 5}, 5, 0},
		{[]int{5, 3}, 3, 0},
		{[]int{5, 5}, 5, 3},
		{[]int{2, 4}, 4, 2},
		{[]int{0, 2}, 2, 0},
		{[]int{0, -1}, -1, 0},
		{[]int{2, -1}, -1, 2},
		{[]int{-1, 0}, 0, 4},
		{[]int{-3, 2}, 2, 4},
		{[]int{3, 0}, 0, 1},
	} {
		r := made(t, 1, 1)
		done := 0
		for k, n := range x.arms {
			r.Arm(n)
			for range x.spent {
				if k < len(x.arms)-1 {
					write(t, r, Slow, 0, block(1), api.OK)
					done++
				}
			}
		}
		is(t, r, false, done)
		for k := range 60 {
			want := api.OK
			if x.fuse >= 0 && k >= x.fuse {
				want = api.ErrDown
			}
			write(t, r, k%2, 0, block(k), want)
		}
		if x.fuse < 0 {
			is(t, r, false, done+60)
		} else {
			is(t, r, true, done+x.fuse)
		}
	}
}

// P4.1: only a crash ends that a rig is down.
func TestArmOfARigThatIsDown(t *testing.T) {
	for _, n := range []int{-1, 0, 1, 9, math.MinInt, math.MaxInt} {
		r := made(t, 2, 2)
		write(t, r, Slow, 1, block(1), api.OK)
		bringDown(t, r)
		r.Arm(n)
		for dev := range 2 {
			refuses(t, r, dev, 1, api.ErrDown)
			write(t, r, dev, 1, block(2), api.ErrDown)
			flush(t, r, dev, api.ErrDown)
		}
		is(t, r, true, 1)
		r.Crash(nil, []byte{1})
		is(t, r, false, 1)
		reads(t, r, Slow, 1, block(1))
		for k := range 20 {
			write(t, r, k%2, 0, block(k), api.OK)
		}
		is(t, r, false, 21)
	}
}

// P4.2: each disk has bytes of its own, by the place among its own loose sectors.
func TestPicks(t *testing.T) {
	for _, x := range []struct {
		fast, slow []byte
		want       [2][3]int // by disk and sector
	}{
		{nil, nil, [2][3]int{{1, 2, 3}, {4, 5, 6}}},
		{[]byte{1}, nil, [2][3]int{{1, 11, 3}, {4, 5, 6}}},
		{nil, []byte{1}, [2][3]int{{1, 2, 3}, {14, 5, 6}}},
		{[]byte{2, 1}, []byte{1, 2}, [2][3]int{{1, 21, 12}, {14, 5, 23}}},
		{[]byte{1, 2}, []byte{2, 1}, [2][3]int{{1, 11, 3}, {24, 5, 13}}},
		{[]byte{0, 1, 1, 1}, []byte{0, 1, 1, 1}, [2][3]int{{1, 2, 12}, {4, 5, 13}}},
		{[]byte{3, 3}, []byte{255, 254}, [2][3]int{{1, 2, 12}, {4, 5, 23}}},
	} {
		r := made(t, 3, 3)
		for dev := range 2 {
			for i := range 3 {
				write(t, r, dev, i, block(1+i+3*dev), api.OK)
			}
			flush(t, r, dev, api.OK)
		}
		for _, w := range [][3]int{{0, 1, 11}, {1, 2, 13}, {0, 2, 12}, {1, 0, 14}, {1, 0, 24}, {0, 1, 21}, {1, 2, 23}} {
			write(t, r, w[0], w[1], block(w[2]), api.OK)
		}
		fast, slow := bytes.Clone(x.fast), bytes.Clone(x.slow)
		r.Crash(x.fast, x.slow)
		if !bytes.Equal(x.fast, fast) || !bytes.Equal(x.slow, slow) {
			t.Errorf("an argument was changed: %v, %v", x.fast, x.slow)
		}
		for range 2 { // another crash finds nothing loose
			for dev := range 2 {
				for i, n := range x.want[dev] {
					if b, _ := r.Read(dev, i); b != block(n) {
						t.Errorf("picks %v, %v: sector %d of disk %d is not %d", x.fast, x.slow, i, dev, n)
					}
				}
			}
			r.Crash([]byte{1, 1, 1}, []byte{1, 1, 1})
		}
		is(t, r, false, 15)
	}
}

// P4.1: a flush is one of its own disk alone.
func TestFlushOfOneDisk(t *testing.T) {
	for dev := range 2 {
		r := made(t, 2, 2)
		for k := range 2 {
			write(t, r, k, 1, block(1+k), api.OK)
		}
		flush(t, r, dev, api.OK)
		r.Crash(nil, nil)
		reads(t, r, dev, 1, block(1+dev))
		reads(t, r, 1-dev, 1, api.Block{})
	}
}

// P4.2: after a crash there is no fuse, whatever there was, and Done has gone on from where it was.
func TestCrashTakesTheFuse(t *testing.T) {
	for _, n := range []int{-1, 0, 1, 2, 9, math.MaxInt} {
		for _, down := range []bool{false, true} {
			r := made(t, 1, 2)
			if down {
				bringDown(t, r)
			}
			r.Arm(n)
			r.Crash(nil, nil)
			for k := range 30 {
				write(t, r, Slow, k%2, block(k), api.OK)
				flush(t, r, k%2, api.OK)
			}
			is(t, r, false, 60)
			r.Arm(1) // and a new one works as the first did
			flush(t, r, Fast, api.OK)
			flush(t, r, Fast, api.ErrDown)
			is(t, r, true, 61)
		}
	}
}

// P4.1, P4.2: a nil rig.
func TestNil(t *testing.T) {
	var r *Rig
	for _, dev := range []int{-1, 0, 1, 2, math.MinInt, math.MaxInt} {
		for _, i := range []int{-1, 0, 1, math.MinInt, math.MaxInt} {
			refuses(t, r, dev, i, api.ErrArg)
			write(t, r, dev, i, block(1), api.ErrArg)
		}
		flush(t, r, dev, api.ErrArg)
		if n := r.Len(dev); n != 0 {
			t.Errorf("Len(%d) = %d", dev, n)
		}
		r.Arm(dev)
		r.Crash([]byte{1}, []byte{2})
		is(t, r, false, 0)
	}
}

// P4.1 to P4.3: long sequences of calls, held against the document's words.
func TestSequences(t *testing.T) {
	for seed := range int64(80) {
		rnd := rand.New(rand.NewSource(seed))
		fast, slow := 1+rnd.Intn(6), 1+rnd.Intn(6)
		r, m := made(t, fast, slow), newTold(t, fast, slow)
		for step := range 1500 {
			dev, i := rnd.Intn(4)-1, rnd.Intn(9)-1
			var got, want api.Errno
			switch k := rnd.Intn(100); {
			case k < 60:
				b := block(step)
				got, want = r.Write(dev, i, b), m.write(dev, i, b)
			case k < 80:
				got, want = r.Flush(dev), m.flush(dev)
			case k < 95:
				n := rnd.Intn(30) - 3
				r.Arm(n)
				m.fuse, m.fused = n, n >= 0
			default:
				picks := [2][]byte{make([]byte, rnd.Intn(7)), make([]byte, rnd.Intn(7))}
				rnd.Read(picks[0])
				rnd.Read(picks[1])
				r.Crash(picks[0], picks[1])
				m.crash(picks[0], picks[1])
			}
			if got != want || r.Down() != m.down || r.Done() != m.succeeded {
				t.Fatalf("seed %d, step %d: %v, %v, %d, want %v, %v, %d", seed, step, got, r.Down(), r.Done(), want, m.down, m.succeeded)
			}
			for dev := -1; dev < 3; dev++ {
				for i := -1; i < 8; i++ {
					b, e := r.Read(dev, i)
					if c, f := m.read(dev, i); b != c || e != f {
						t.Fatalf("seed %d, step %d: Read(%d, %d) = %v, %v, want %v, %v", seed, step, dev, i, b, e, c, f)
					}
				}
			}
		}
	}
}

// Two rigs have nothing in common.
func TestRigsAreApart(t *testing.T) {
	a, b := made(t, 2, 2), made(t, 2, 2)
	write(t, a, Fast, 0, block(1), api.OK)
	b.Arm(0)
	write(t, b, Fast, 0, block(2), api.ErrDown)
	is(t, a, false, 1)
	is(t, b, true, 0)
	flush(t, a, Fast, api.OK)
	b.Crash([]byte{1}, nil)
	reads(t, a, Fast, 0, block(1))
	reads(t, b, Fast, 0, api.Block{})
	a.Arm(0)
	write(t, b, Slow, 1, block(3), api.OK)
	a.Crash(nil, []byte{1})
	reads(t, a, Slow, 1, api.Block{})
	reads(t, b, Slow, 1, block(3))
}

// What the caller does to the bytes that it gave to Crash has no effect afterwards, and their spare capacity stays.
func TestPicksAreNotKept(t *testing.T) {
	r := made(t, 2, 2)
	write(t, r, Fast, 0, block(1), api.OK)
	write(t, r, Slow, 0, block(2), api.OK)
	picks := []byte{1, 7, 0, 7}
	r.Crash(picks[:1], picks[2:3])
	reads(t, r, Fast, 0, block(1))
	reads(t, r, Slow, 0, api.Block{})
	write(t, r, Fast, 0, block(3), api.OK)
	picks[0], picks[2] = 0, 1
	reads(t, r, Fast, 0, block(3))
	r.Crash(nil, nil)
	reads(t, r, Fast, 0, block(1))
	reads(t, r, Slow, 0, api.Block{})
	if picks[1] != 7 || picks[3] != 7 {
		t.Error("the spare capacity of an argument was changed")
	}
}

// A visit of the disks goes from the fast one to the slow one and may end early.
func TestDisks(t *testing.T) {
	r := made(t, 3, 4)
	var lens []int
	for dev, d := range r.disks() {
		lens = append(lens, dev, d.Len())
	}
	if !slices.Equal(lens, []int{Fast, 3, Slow, 4}) {
		t.Error(lens)
	}
	for dev, d := range r.disks() {
		if dev != Fast || d.Len() != 3 {
			t.Error(dev)
		}
		break
	}
}
