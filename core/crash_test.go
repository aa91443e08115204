package core_test

import (
	"math/rand"
	"testing"

	"revetment/api"
	"revetment/core"
	"revetment/rig"
	"revetment/state"
)

// life is a volume that goes through crashes.
type life struct {
	r          *rig.Rig
	c          *core.Core
	s          api.State   // what was committed last, as it is opened
	slots      []api.Block // what was in the slots then
	old, young int         // how often the one was opened that was committed last, and the one that was being committed
}

func born(t *testing.T, g api.Geom) *life {
	t.Helper()
	r, c := formatted(t, g)
	x := &life{r: r, c: c, s: first(g)}
	x.look(t)
	return x
}

// look takes down what is in the slots.
func (x *life) look(t *testing.T) {
	t.Helper()
	x.slots = nil
	for i := range x.s.Dirty {
		b, e := x.c.Slot(i)
		if e != api.OK {
			t.Fatal(i, e)
		}
		x.slots = append(x.slots, b)
	}
}

// fill writes to a slot, as often as it is told, and to the other disk.
func (x *life) fill(slot, n, times int) {
	for k := range times {
		x.c.PutSlot(slot, filled(n+k))
		x.slots[slot] = filled(n + k)
	}
	x.c.PutSlow(0, filled(n))
}

// commit commits s with these dirty blocks on a rig with this fuse, and crashes: what is opened then is the state that was committed last, or the one that was being committed; once Commit returned OK it is the latter. Where the new state stands, so does what was in the slots ahead of it.
func (x *life) commit(t *testing.T, s api.State, dirty []int, fuse int, fast []byte) {
	t.Helper()
	g := x.c.Geom()
	now := dirtied(s, dirty...)
	fill(x.c.Map(), dirty)
	x.r.Arm(fuse)
	e := x.c.Commit(s)
	if e != api.OK && (e != api.ErrDown || !x.r.Down()) {
		t.Fatal(e)
	}
	x.r.Crash(fast, fast)
	x.c = opens(t, x.r)
	is := x.c.State()
	isOld, isYoung := state.Same(is, x.s), state.Same(is, now)
	if !isOld && !isYoung || e == api.OK && !isYoung {
		t.Fatalf("fuse %d, %v, %v: %v\nwas %v\nnow %v", fuse, fast, e, is, x.s, now)
	}
	if isYoung && !isOld {
		for i, want := range x.slots {
			if b, e := x.c.Slot(i); b != want || e != api.OK {
				t.Fatal(i, b, e)
			}
		}
	}
	if e != api.OK && isOld {
		x.old++
	} else if e != api.OK {
		x.young++
	}
	says(t, x.c, g, is)
	onlyDirty(t, x.c, is.Dirty)
	x.s = is
	x.look(t)
}

// choice returns what a crash leaves of three loose sectors with up to two versions each, one for each n below 27.
func choice(n int) []byte {
	return []byte{byte(n % 3), byte(n / 3 % 3), byte(n / 9 % 3)}
}

// P18.4: each write and flush of a Commit fails, and a crash leaves any of what is loose, several times over on the same rig.
func TestAnyCrash(t *testing.T) {
	l, d := states(), dirties()
	var old, young int
	for _, ring := range []int{5, 6, 8} {
		for ahead := range 4 {
			for fuse := range 13 {
				for n := range 27 {
					x := born(t, ringed(ring))
					for k := range ahead {
						x.commit(t, l[(ahead+k)%len(l)], d[k], -1, nil)
					}
					x.fill(n%4, n, n%3)
					x.commit(t, l[(fuse+n)%len(l)], d[n%len(d)], fuse, choice(n))
					x.fill(fuse%4, fuse, 1)
					x.commit(t, l[(fuse+ahead)%len(l)], d[fuse%len(d)], 1+n%8, choice(fuse+n))
					x.commit(t, l[n%len(l)], d[(n+1)%len(d)], 2+fuse%5, choice(26-n))
					x.commit(t, l[ahead], d[ahead], -1, nil)
					old, young = old+x.old, young+x.young
				}
			}
		}
	}
	if old < 1000 || young < 200 {
		t.Error(old, young)
	}
}

// P18.4: each state behind each other one, with a fuse at each write and flush, where all that is loose survives, or none.
func TestCrashBetween(t *testing.T) {
	for i, a := range states() {
		for k, b := range states() {
			for fuse := range 11 {
				for _, fast := range [][]byte{nil, whole()} {
					x := born(t, shape())
					x.commit(t, a, dirties()[i%6], -1, nil)
					x.commit(t, b, dirties()[k%6], fuse, fast)
					x.commit(t, a, dirties()[k%6], 10-fuse, fast)
				}
			}
		}
	}
}

// P18.4: long lives with many crashes.
func TestLives(t *testing.T) {
	for seed, g := range []api.Geom{shape(), ringed(5), ringed(7), ringed(12)} {
		r := rand.New(rand.NewSource(int64(seed)))
		x := born(t, g)
		for range 400 {
			for range r.Intn(4) {
				x.fill(r.Intn(4), r.Intn(200), 1+r.Intn(2))
			}
			fast := make([]byte, 20)
			r.Read(fast)
			x.commit(t, states()[r.Intn(len(states()))], dirties()[r.Intn(len(dirties()))], r.Intn(16)-1, fast)
		}
		if x.old < 50 || x.young < 5 {
			t.Error(g, x.old, x.young)
		}
	}
}

// P18.4: the largest geometry, whose commits take many sectors.
func TestLargestLife(t *testing.T) {
	g := largest()
	r := rand.New(rand.NewSource(64))
	x := born(t, g)
	for n := range 150 {
		s := crowded()
		s.Plan.Pairs = s.Plan.Pairs[:r.Intn(64)]
		s.Snaps[7].Changed[r.Intn(8)] = 0xff
		dirty := noDirty(g)
		for i := range dirty {
			if r.Intn(2) == 0 {
				dirty[i] = s.Dirty[i]
			}
		}
		if n%5 == 4 {
			s = api.State{Next: 1 + n}
		}
		x.fill(r.Intn(32), n, 1)
		fast := make([]byte, 60)
		r.Read(fast)
		x.commit(t, s, dirty, r.Intn(30)-1, fast)
	}
	if x.old < 20 || x.young < 1 {
		t.Error(x.old, x.young)
	}
}

// P18.4: what is in memory alone, marked or put into the map, is gone with a crash.
func TestMemoryIsGone(t *testing.T) {
	for _, s := range states() {
		x := born(t, shape())
		x.commit(t, s, dirties()[2], -1, nil)
		want := x.s
		for block := range 8 {
			x.c.Mark(block)
			x.c.Map().Put(block%2*2, block, true)
		}
		x.c.Map().Drop(1)
		x.c.Flush(rig.Fast)
		x.c.Flush(rig.Slow)
		crash(x.r, true)
		opensAs(t, x.r, shape(), want)
	}
}
