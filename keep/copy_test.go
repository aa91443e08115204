package keep_test

import (
	"fmt"
	"math/rand"
	"slices"
	"testing"

	"revetment/api"
	"revetment/core"
	"revetment/geom"
	"revetment/keep"
	"revetment/rig"
	"revetment/state"
)

// P19.2: copies told by hand: the place that each block gets, what stands there, and the Table and Changed of the latest snapshot.
func TestCopy(t *testing.T) {
	type got struct{ at, part, i int } // a place, and what is in it: part 10 is the slots, 13 the blocks on the slow disk
	for i, x := range []struct {
		x       sample
		blocks  []int
		got     []got
		changed []byte
		table   []api.Pair
	}{
		{one(4), []int{0}, []got{{0, 10, 0}}, set(8, 0, 1, 3, 5), pairs(0, 0, 3, 1)},
		{one(4), []int{7}, []got{{0, 10, 3}}, set(8, 1, 3, 5, 7), pairs(3, 1, 7, 0)},
		{one(4), []int{1}, []got{{0, 13, 1}}, set(8, 1, 3, 5), pairs(1, 0, 3, 1)}, // dirty in slot 2: what it contains is younger
		{one(4), []int{5}, []got{{0, 13, 5}}, set(8, 1, 3, 5), pairs(3, 1, 5, 0)},
		{one(4), []int{0, 7}, []got{{0, 10, 0}, {2, 10, 3}}, set(8, 0, 1, 3, 5, 7), pairs(0, 0, 3, 1, 7, 2)},
		{one(4), []int{7, 0}, []got{{0, 10, 3}, {2, 10, 0}}, set(8, 0, 1, 3, 5, 7), pairs(0, 2, 3, 1, 7, 0)},
		{one(4), []int{1, 5}, []got{{0, 13, 1}, {2, 13, 5}}, set(8, 1, 3, 5), pairs(1, 0, 3, 1, 5, 2)},
		{one(4), []int{5, 7, 1}, []got{{0, 13, 5}, {2, 10, 3}, {3, 13, 1}}, set(8, 1, 3, 5, 7), pairs(1, 3, 3, 1, 5, 0, 7, 2)},
		{one(5), []int{5, 0, 1, 7}, []got{{0, 13, 5}, {2, 10, 0}, {3, 13, 1}, {4, 10, 3}}, set(8, 0, 1, 3, 5, 7), pairs(0, 2, 1, 3, 3, 1, 5, 0, 7, 4)},
		{two(10), []int{6, 0}, []got{{1, 13, 6}, {3, 10, 1}}, set(8, 0, 3, 4, 6), pairs(0, 3, 4, 5, 6, 1)},
		{two(10), []int{3, 1, 0, 6}, []got{{1, 13, 3}, {3, 10, 3}, {4, 10, 1}, {6, 13, 6}}, set(8, 0, 1, 3, 4, 6), pairs(0, 4, 1, 3, 3, 1, 4, 5, 6, 6)},
		{eight(15), []int{3, 0}, []got{{1, 10, 2}, {3, 13, 0}}, set(8, 0, 3, 6, 7), pairs(0, 3, 3, 1, 7, 14)},
		{importing(8), []int{7, 0}, []got{{2, 10, 3}, {4, 10, 0}}, set(8, 0, 3, 7), pairs(0, 4, 3, 1, 7, 2)}, // the plan has the places 0 and 3
		{rolling(8), []int{7, 0}, []got{{0, 10, 3}, {2, 10, 0}}, set(8, 0, 1, 3, 5, 7), pairs(0, 2, 3, 1, 7, 0)},
	} {
		r, c := x.x.made(t)
		want := c.State()
		latest := &want.Snaps[len(want.Snaps)-1]
		latest.Changed, latest.Table = x.changed, x.table
		if e := keep.Copy(c, x.blocks); e != api.OK {
			t.Fatal(i, e)
		}
		for _, crash := range []bool{false, true} {
			if crash {
				r.Crash(nil, nil)
				c = opened(t, r)
			}
			says(t, c, want)
			for at := range x.x.g.Area {
				b, e := c.Area(at)
				wanted := filled(16, at)
				if k := slices.IndexFunc(x.got, func(p got) bool { return p.at == at }); k >= 0 {
					wanted = filled(x.got[k].part, x.got[k].i)
				}
				if b != wanted || e != api.OK {
					t.Errorf("%d: place %d: %v, %v", i, at, b, e)
				}
			}
		}
	}
}

// last is what a crash leaves by, of each sector that was written at most five times since the last flush, what was written last.
func last() []byte { return slices.Repeat([]byte{59}, 4096) }

// choices are what a crash leaves of all that is loose: nothing, all, and two drawn by luck.
func choices(r *rand.Rand) [][2][]byte {
	l := [][2][]byte{{}, {last(), last()}, {nil, last()}, {last(), nil}}
	for range 2 {
		fast, slow := make([]byte, 120), make([]byte, 300)
		r.Read(fast)
		r.Read(slow)
		l = append(l, [2][]byte{fast, slow})
	}
	return l
}

// alike has the blocks copied, on a rig with this fuse, and by the document's words on another one that is the same; it holds what is told, in memory, and on the disks, behind a crash too. It returns what Copy told.
func (x sample) alike(t *testing.T, blocks []int, fuse int, choice [2][]byte) api.Errno {
	t.Helper()
	r, c := x.made(t)
	other, d := x.made(t)
	was := r.Done()
	where := fmt.Sprint(x.g, x.s, x.slots, x.marked, blocks, fuse)
	r.Arm(fuse)
	other.Arm(fuse)
	e, want := keep.Copy(c, blocks), toldCopy(other, d, blocks)
	if e != want || r.Done() != other.Done() || r.Down() != other.Down() {
		t.Fatalf("%s: %v, %d, want %v, %d", where, e, r.Done()-was, want, other.Done()-was)
	}
	if !state.Same(c.State(), d.State()) || !slices.Equal(inMap(c.Map(), x.g), inMap(d.Map(), x.g)) {
		t.Fatalf("%s: %v\nwant %v", where, c.State(), d.State())
	}
	looks(t, c)
	if !r.Down() && !sameContent(r, other) {
		t.Fatalf("%s: the disks", where)
	}
	r.Crash(choice[0], choice[1])
	other.Crash(choice[0], choice[1])
	if !sameContent(r, other) {
		t.Fatalf("%s: the disks behind a crash", where)
	}
	says(t, opened(t, r), opened(t, other).State())
	if !slices.Equal(probed(c.Map(), x.g), probed(d.Map(), x.g)) {
		t.Fatalf("%s: the map", where)
	}
	return e
}

// permutations calls f with the lists of some of l, in each order.
func permutations(l []int, f func([]int)) {
	var add func(l, rest []int)
	add = func(l, rest []int) {
		f(l)
		for i := range rest {
			add(append(slices.Clone(l), rest[i]), slices.Delete(slices.Clone(rest), i, i+1))
		}
	}
	add(nil, l)
}

// P19.2: some of the blocks that are held, in each order.
func TestCopyOrders(t *testing.T) {
	for i, x := range plain(16) {
		x.loose = i%2 == 0
		_, c := x.made(t)
		all := held(c)
		if len(all) > 4 {
			all = append(all[:2:2], all[len(all)-2:]...)
		}
		n := 0
		permutations(all, func(l []int) {
			n++
			e := x.alike(t, l, -1, [2][]byte{})
			if e != api.OK {
				t.Fatal(i, l, e)
			}
		})
		if n != map[int]int{2: 5, 4: 65}[len(all)] {
			t.Error(i, n)
		}
	}
}

// P19.2: all of them at once, in samples drawn by luck, and any lists of numbers.
func TestCopyDrawn(t *testing.T) {
	rnd := rand.New(rand.NewSource(193))
	count := map[api.Errno]int{}
	for _, g := range geometries() {
		for n := range 60 {
			x := drawn(rnd, g)
			x.loose = n%2 == 0
			_, c := x.made(t)
			all := held(c)
			rnd.Shuffle(len(all), func(i, k int) { all[i], all[k] = all[k], all[i] })
			switch n % 4 {
			case 0:
				all = all[:rnd.Intn(len(all)+1)]
			case 1:
				all = append(all, rnd.Intn(g.Blocks))
			case 2:
				all = all[:min(len(all), len(toldFree(c)))]
			}
			fuse := -1
			if n%3 == 0 {
				fuse = rnd.Intn(20)
			}
			count[x.alike(t, all, fuse, choices(rnd)[n%6])]++
		}
	}
	for _, e := range []api.Errno{api.OK, api.ErrArg, api.ErrSpace, api.ErrDown} {
		if count[e] < 30 {
			t.Error(count)
		}
	}
}

// untouched checks that a core and its rig are as they were; what is not durable is lost.
func untouched(t *testing.T, x sample, r *rig.Rig, c *core.Core) {
	t.Helper()
	other, d := x.made(t)
	if r.Done() != other.Done() || r.Down() || !sameContent(r, other) {
		t.Error("it wrote or flushed")
	}
	says(t, c, d.State())
	r.Crash(nil, nil)
	other.Crash(nil, nil)
	if !sameContent(r, other) || !slices.Equal(probed(c.Map(), x.g), probed(d.Map(), x.g)) {
		t.Error("it changed something")
	}
}

// P19.2: no blocks: nothing is done, whatever there is room for; no fuse burns, and no rig is needed.
func TestCopyNone(t *testing.T) {
	for _, x := range append(plain(16), one(2), sample{g: sized(0), s: api.State{Next: 1}}) {
		x.loose = true
		for _, l := range [][]int{nil, {}, make([]int, 0, 9), []int{0, 5}[:0]} {
			for _, fuse := range []int{-1, 0, 1} {
				r, c := x.made(t)
				r.Arm(fuse)
				if e := keep.Copy(c, l); e != api.OK {
					t.Error(e)
				}
				untouched(t, x, r, c)
			}
		}
		r, c := x.made(t)
		r.Arm(0)
		r.Flush(rig.Slow)
		if e := keep.Copy(c, nil); e != api.OK {
			t.Error(e)
		}
	}
}

// P19.2: lists with a block that is not held, or that occurs twice: ErrArg, ahead of ErrSpace and of an error of the rig.
func TestCopyArg(t *testing.T) {
	full := one(4) // with one place too few for what is held
	for i, x := range []sample{one(8), one(2), full, two(6), eight(15), importing(4)} {
		x.loose = true
		_, c := x.made(t)
		all := held(c)
		var bad [][]int
		for _, block := range beside(8) {
			bad = append(bad, []int{block}, append([]int{block}, all...), append(slices.Clone(all), block), []int{all[0], block, all[1]}, []int{block, block})
		}
		for block := range 8 {
			if !slices.Contains(all, block) {
				bad = append(bad, []int{block}, append([]int{block}, all...), append(slices.Clone(all), block), []int{all[0], block})
			}
		}
		for k, block := range all {
			bad = append(bad, []int{block, block}, append([]int{block}, all...), append(slices.Clone(all), block), slices.Insert(slices.Clone(all), k, block))
			if k > 0 {
				bad = append(bad, []int{block, all[0], block}, []int{all[0], block, block, all[0]})
			}
		}
		bad = append(bad, slices.Repeat(all, 2), slices.Repeat(all[:1], 5000), slices.Repeat(all, 300000))
		for _, l := range bad {
			for _, fuse := range []int{-1, 0} {
				r, c := x.made(t)
				r.Arm(fuse)
				if e := keep.Copy(c, l); e != api.ErrArg {
					t.Error(i, l[:min(len(l), 20)], e)
				}
				untouched(t, x, r, c)
			}
		}
		r, c := x.made(t)
		r.Arm(0)
		r.Flush(rig.Fast)
		if e := keep.Copy(c, bad[0]); e != api.ErrArg { // of a rig that is down
			t.Error(i, e)
		}
	}
}

// P19.2: without a snapshot nothing is held, so that each list of blocks is wrong.
func TestCopyWithoutSnapshots(t *testing.T) {
	x := sample{g: sized(8), s: api.State{Next: 5}, slots: one(8).slots}
	for block := -1; block < 9; block++ {
		r, c := x.made(t)
		c.Mark(block)
		if e := keep.Copy(c, []int{block}); e != api.ErrArg {
			t.Error(block, e)
		}
		untouched(t, x, r, c)
	}
}

// P19.2: ErrSpace where the area has one place too few, or none, or no blocks at all, ahead of an error of the rig: nothing is done then. With as many places as blocks there is room.
func TestCopySpace(t *testing.T) {
	hold := func(x sample, blocks []int, want api.Errno) {
		t.Helper()
		x.loose = true
		for _, fuse := range []int{-1, 0} {
			r, c := x.made(t)
			r.Arm(fuse)
			if want == api.OK && fuse == 0 {
				continue
			}
			if e := keep.Copy(c, blocks); e != want {
				t.Fatal(x.g, blocks, e)
			}
			if want == api.OK {
				continue
			}
			untouched(t, x, r, c)
			r, c = x.made(t)
			r.Arm(0)
			r.Flush(rig.Slow)
			if e := keep.Copy(c, blocks); e != want {
				t.Fatal(x.g, blocks, e)
			}
		}
	}
	for area := 2; area < 8; area++ {
		permutations([]int{0, 7, 1, 5}, func(l []int) {
			if len(l) > area-1 {
				hold(one(area), l, api.ErrSpace)
			} else {
				hold(one(area), l, api.OK)
			}
		})
	}
	for area := 4; area < 9; area++ { // the plan takes two of them
		for _, l := range [][]int{{0}, {7}, {7, 0}} {
			if len(l) > area-3 {
				hold(importing(area), l, api.ErrSpace)
			} else {
				hold(importing(area), l, api.OK)
			}
		}
	}
	none := one(0)
	none.s.Snaps[0].Changed, none.s.Snaps[0].Table = set(8, 1, 3, 5), nil
	for _, l := range [][]int{{0}, {1}, {0, 1, 3, 5, 7}} {
		hold(none, l, api.ErrSpace)
	}
	x := sample{g: largest(), s: api.State{Next: 9}} // all 200 places, save one, are used by the elder snapshots
	for i := range 8 {
		s := api.Snap{Id: i + 1, Changed: set(64)}
		for block := range 64 {
			if at := 64*i + block; at < 200 && at != 133 {
				put(&s, block, inBoth, at)
			}
		}
		x.s.Snaps = append(x.s.Snaps, s)
	}
	x.s.Snaps[7].Changed = set(64, 0, 63)
	hold(x, []int{63}, api.OK)
	hold(x, []int{63, 0}, api.ErrSpace)
}

// P19.2: the largest geometry: all blocks at once, backwards.
func TestCopyLargest(t *testing.T) {
	x := sample{g: largest(), s: api.State{Next: 2, Snaps: []api.Snap{{Id: 1, Changed: set(64)}}}, loose: true}
	for block := range 64 {
		if way := block / 8; way < 4 {
			x.slots = append(x.slots, piece{block%8*4 + way, block, true})
		} else {
			x.s.Snaps[0].Changed[block/8] |= 1 << (block % 8)
		}
	}
	_, c := x.made(t)
	all := held(c)
	if len(all) != 64 {
		t.Fatal(all)
	}
	slices.Reverse(all)
	if e := x.alike(t, all, -1, [2][]byte{}); e != api.OK {
		t.Error(e)
	}
}

// P19.2: the error of the commit, where the state is not valid: the area has been written and flushed by then, and the state in memory is as it was.
func TestCopyNotValid(t *testing.T) {
	x := importing(8) // to which no block may have changed that is not in the Table
	x.marked = []int{1, 5}
	x.loose = true
	for _, choice := range choices(rand.New(rand.NewSource(5))) {
		for _, l := range [][]int{{0}, {1}, {0, 5}} {
			if e := x.alike(t, l, -1, choice); e != api.ErrForm {
				t.Error(l, e)
			}
		}
		for _, l := range [][]int{{1, 5}, {5, 7, 1}} {
			if e := x.alike(t, l, -1, choice); e != api.OK {
				t.Error(l, e)
			}
		}
	}
	r, c := one(8).made(t)
	c.Map().Put(1, 8, true) // no block of the volume, and dirty
	want := c.State()
	done := r.Done()
	if e := keep.Copy(c, []int{5, 0}); e != api.ErrForm || r.Done() != done+3 {
		t.Error(e, r.Done()-done)
	}
	says(t, c, want)
	r.Crash(nil, nil)
	for at, wanted := range []api.Block{filled(13, 5), filled(16, 1), filled(10, 0), filled(16, 3)} {
		if b, e := c.Area(at); b != wanted || e != api.OK {
			t.Error(at, b, e)
		}
	}
}

// P19.2: what was copied is held no more, nor may it be copied again; what is left may be.
func TestCopyAgain(t *testing.T) {
	for i, x := range plain(16) {
		_, c := x.made(t)
		if x.s.Plan.Kind == api.PlanImport && len(x.marked) > 0 {
			continue
		}
		left := held(c)
		for len(left) > 0 {
			block := left[len(left)/2]
			left = slices.DeleteFunc(left, func(b int) bool { return b == block })
			if e := keep.Copy(c, []int{block}); e != api.OK {
				t.Fatal(i, block, e)
			}
			if keep.InSlot(c, block) || keep.OnSlow(c, block) || slices.Contains(keep.All(c), block) || !slices.Equal(held(c), left) {
				t.Fatal(i, block, held(c))
			}
			for range 2 {
				if e := keep.Copy(c, []int{block}); e != api.ErrArg {
					t.Fatal(i, block, e)
				}
				if e := keep.Copy(c, append([]int{block}, left...)); e != api.ErrArg {
					t.Fatal(i, block, e)
				}
				c.Mark(block)
			}
			looks(t, c)
		}
		if l := keep.All(c); len(l) != 0 {
			t.Error(i, l)
		}
	}
}

// P19.2: the blocks that All tells may be copied at once, and none is held on the slow disk then.
func TestCopyAll(t *testing.T) {
	rnd := rand.New(rand.NewSource(194))
	for _, g := range geometries() {
		for range 20 {
			x := drawn(rnd, g)
			_, c := x.made(t)
			l := keep.All(c)
			enough := len(l) <= len(toldFree(c))
			e := keep.Copy(c, l)
			if enough != (e == api.OK) || !enough && e != api.ErrSpace || enough && len(keep.All(c)) > 0 || !enough && !slices.Equal(keep.All(c), l) {
				t.Fatal(g, l, e)
			}
			looks(t, c)
		}
	}
}

// P19.2: what is written and flushed where a copy takes as few as it may: each block in its place, the slow disk, the fast disk, then the transaction.
func TestCopyCounts(t *testing.T) {
	for _, l := range [][]int{{0}, {5}, {5, 0}, {7, 1, 5, 0}} {
		x := one(8)
		x.g.Ring = 20
		r, c := x.made(t)
		done := r.Done()
		before := content(r)
		if e := keep.Copy(c, l); e != api.OK {
			t.Fatal(e)
		}
		now := content(r)
		var slow, fast []int
		for i := range now[1] {
			if now[1][i] != before[1][i] {
				slow = append(slow, i)
			}
		}
		for i := range now[0] {
			if now[0][i] != before[0][i] {
				fast = append(fast, i)
			}
		}
		if !slices.Equal(slow, []int{8, 10, 11, 12}[:len(l)]) {
			t.Error(l, slow)
		}
		if len(fast) < 2 || fast[0] < geom.Ring(x.g) || fast[len(fast)-1] >= geom.Home(x.g) {
			t.Error(l, fast) // in the ring alone
		}
		if n := r.Done() - done; n != len(l)+1+1+len(fast)+2 {
			t.Error(l, n)
		}
	}
}
