package meta

import (
	"math/rand"
	"slices"
	"testing"

	"revetment/api"
	"revetment/rig"
)

// P8.3: in which order a Commit writes and flushes: each of its writes and flushes fails, those of its checkpoint too, and a crash leaves all that is loose, or none.
func TestCommitOrder(t *testing.T) {
	g := shape()
	checkpoints := 0
	for ahead := range 4 {
		for set := 1; set < 1<<3; set++ {
			for fuse := range 14 {
				for _, survives := range []bool{false, true} {
					r, m, was := advanced(t, g, ahead)
					put(t, r, rig.Slow, 1, api.Block{1}) // loose: no flush may settle it
					before, done := fast(r), r.Done()
					x, _ := toldOpen(before, r.Len(rig.Slow))
					now := turned(was, pagesOf(set)...)
					ops, checkpoint := x.toldCommit(now)
					if checkpoint {
						checkpoints++
					}
					r.Arm(fuse)
					e := m.Commit(now)
					n := min(fuse, len(ops))
					if whole := fuse >= len(ops); whole && e != api.OK || !whole && (e != api.ErrDown || !r.Down()) || r.Done() != done+n {
						t.Fatal(ahead, set, fuse, e, r.Done()-done)
					}
					r.Crash(picks(survives), nil)
					if got, want := fast(r), after(before, ops[:n], survives); !slices.Equal(got, want) {
						t.Fatalf("%d commits, pages %b, fuse %d, %v: %v\nwant %v", ahead, set, fuse, survives, got, want)
					}
					if b, _ := r.Read(rig.Slow, 1); b != junk(rig.Slow, 1) {
						t.Fatal("the slow disk was flushed")
					}
				}
			}
		}
	}
	if checkpoints == 0 {
		t.Error("no checkpoint")
	}
}

// advanced returns a rig on which so much was committed, and what was committed last.
func advanced(t *testing.T, g api.Geom, ahead int) (*rig.Rig, *Meta, []byte) {
	t.Helper()
	b := filled(g, 0)
	r, m := formatted(t, g, b)
	for k := range ahead {
		b = turned(b, k%3, (k+2)%3)
		if e := m.Commit(b); e != api.OK {
			t.Fatal(e)
		}
	}
	return r, m, b
}

// P8.4: each write and flush of a Commit fails, and a crash leaves any of the loose sectors: Open returns what was committed last or what was being committed, and it goes on from there, through a second such crash.
func TestAnyCrash(t *testing.T) {
	var old, young int
	for _, g := range []api.Geom{ringed(5), ringed(6), ringed(8)} {
		for ahead := range 5 {
			for fuse := range 14 {
				for pick := range 1 << 3 { // no more than three sectors are loose
					r, m, was := advanced(t, g, ahead)
					now := turned(was, 0, 1, 2)
					r.Arm(fuse)
					e := m.Commit(now)
					r.Crash(bits(pick), nil)
					b := survived(t, r, e, was, now)
					if e == api.ErrDown {
						if slices.Equal(b, was) {
							old++
						} else {
							young++
						}
					}
					twice(t, r, b, pick)
				}
			}
		}
	}
	if old == 0 || young == 0 {
		t.Error(old, young)
	}
}

// twice cuts the next Commit too, in a place of its own for each n, and then commits.
func twice(t *testing.T, r *rig.Rig, was []byte, n int) {
	t.Helper()
	m := opens(t, r)
	now := turned(was, n%3)
	r.Arm(1 + n%5)
	e := m.Commit(now)
	r.Crash(bits(n>>1), nil)
	b := survived(t, r, e, was, now)
	m = opens(t, r)
	b = turned(b, 0, 2)
	commit(t, r, m, b)
	r.Crash(nil, nil)
	opensAs(t, r, m.Geom(), b, m.Room())
}

// bits returns picks of which those are 1 whose bits are set.
func bits(n int) []byte {
	var l []byte
	for i := range 8 {
		l = append(l, byte(n>>i&1))
	}
	return l
}

// survived checks that what was being committed is there, or what was committed last; if the Commit came to its end, the former. It returns what is there.
func survived(t *testing.T, r *rig.Rig, e api.Errno, was, now []byte) []byte {
	t.Helper()
	b := opens(t, r).Bytes()
	if !slices.Equal(b, now) && (e == api.OK || !slices.Equal(b, was)) {
		t.Fatalf("%v: %v, was %v, now %v", e, b, was, now)
	}
	return b
}

// P8.4: what was flushed ahead of the commit is all that a Commit needs: until its commit is written, the old bytes are there.
func TestNotBeforeItsCommit(t *testing.T) {
	g := ringed(8)
	for ahead := range 5 {
		r, m, was := advanced(t, g, ahead)
		now := turned(was, 0, 1, 2)
		x, _ := toldOpen(fast(r), r.Len(rig.Slow))
		ops, _ := x.toldCommit(now)
		r.Arm(len(ops) - 2) // neither the commit nor its flush
		if e := m.Commit(now); e != api.ErrDown {
			t.Fatal(e)
		}
		r.Crash(whole(), nil)
		if b := opens(t, r).Bytes(); !slices.Equal(b, was) {
			t.Fatal(ahead, b)
		}
	}
}

// P8.4: long lives with many crashes, on every geometry: the bytes and the room are what the disk says, and the bytes are the old or the new ones.
func TestLives(t *testing.T) {
	for k, g := range shapes() {
		rnd := rand.New(rand.NewSource(int64(100 + k)))
		b := filled(g, 0)
		r, m := formatted(t, g, b)
		checkpoints, crashes := 0, 0
		for range 150 {
			now := varied(rnd, b)
			x, _ := toldOpen(fast(r), r.Len(rig.Slow))
			ops, checkpoint := x.toldCommit(now)
			if checkpoint {
				checkpoints++
			}
			if rnd.Intn(2) == 0 {
				commit(t, r, m, now)
				b = now
				continue
			}
			fuse := rnd.Intn(len(ops) + 2)
			r.Arm(fuse)
			e := m.Commit(now)
			if (e == api.OK) != (fuse >= len(ops)) {
				t.Fatal(e, fuse, len(ops))
			}
			pick := make([]byte, 40)
			rnd.Read(pick)
			r.Crash(pick, pick)
			crashes++
			b = survived(t, r, e, b, now)
			m = opens(t, r)
		}
		if checkpoints == 0 || crashes == 0 {
			t.Error(g, checkpoints, crashes)
		}
	}
}
