package core_test

import (
	"fmt"
	"slices"
	"strings"
	"testing"

	"revetment/api"
	"revetment/core"
	"revetment/state"
)

// cell is the memory of a slice, its spare capacity included.
type cell struct {
	text  func() string
	spoil func()
}

func cellOf[T any](l []T, with T) cell {
	l = l[:cap(l)]
	return cell{
		text: func() string { return fmt.Sprint(l) },
		spoil: func() {
			for i := range l {
				l[i] = with
			}
		},
	}
}

// cells are those of the slices of s. Of the snapshots themselves, it is their Ids.
func cells(s api.State) []cell {
	snaps := s.Snaps[:cap(s.Snaps)]
	out := []cell{
		cellOf(s.Dirty, -97),
		cellOf(s.Plan.Pairs, api.Pair{Block: -98, At: -99}),
		{
			text: func() string {
				var l []int
				for _, snap := range snaps {
					l = append(l, snap.Id)
				}
				return fmt.Sprint(l)
			},
			spoil: func() {
				for i := range snaps {
					snaps[i].Id = -94
				}
			},
		},
	}
	for _, snap := range snaps {
		out = append(out, cellOf(snap.Changed, 0x5a), cellOf(snap.Table, api.Pair{Block: -95, At: -96}))
	}
	return out
}

// memory tells what the memory of s holds.
func memory(s api.State) string {
	var l []string
	for _, x := range cells(s) {
		l = append(l, x.text())
	}
	return strings.Join(l, "; ")
}

// spoil changes everything in the memory of s.
func spoil(s api.State) {
	for _, x := range cells(s) {
		x.spoil()
	}
}

// roomy returns l in memory of its own, with spare capacity that is filled.
func roomy[T any](l []T, filled ...T) []T {
	return slices.Concat(l, filled, filled)[:len(l)]
}

// spare returns s in memory of its own, each of its slices with spare capacity that is filled.
func spare(s api.State) api.State {
	s = state.Copy(s)
	s.Dirty = roomy(s.Dirty, 77, -1, 5)
	s.Plan.Pairs = roomy(s.Plan.Pairs, api.Pair{Block: -77, At: -78}, api.Pair{Block: 3, At: 2})
	for i, snap := range s.Snaps {
		s.Snaps[i].Changed = roomy(snap.Changed, 77, 0, 255)
		s.Snaps[i].Table = roomy(snap.Table, api.Pair{Block: -79, At: -80}, api.Pair{Block: 2, At: 1})
	}
	s.Snaps = roomy(s.Snaps, api.Snap{Id: 1000, Changed: []byte{70, 1}, Table: pairs(5, 6)})
	return s
}

// entwined is a state whose slices have memory in common: the snapshots have the same Changed.
func entwined() api.State {
	set, l := []byte{0, 0, 0}, pairs(0, 3, 1, 2, 2, 1)
	return api.State{
		Next:  9,
		Snaps: []api.Snap{{Id: 1, Changed: set[:1], Table: l[:0]}, {Id: 2, Changed: set[:1], Table: l[1:1]}, {Id: 3, Changed: set[1:2]}},
		Plan:  api.Plan{Kind: api.PlanImport, Id: 9, Pairs: l},
	}
}

// P18.1: State is a copy: changing it changes neither the core, nor the map, nor what another call returns; and nothing changes it.
func TestStateIsTheCallers(t *testing.T) {
	for _, s := range append(states(), entwined()) {
		for _, open := range []bool{false, true} {
			r, c := formatted(t, shape())
			fill(c.Map(), dirties()[2])
			if e := c.Commit(s); e != api.OK {
				t.Fatal(e)
			}
			if open {
				c = opens(t, r)
			}
			want := dirtied(s, dirties()[2]...)
			a, b := c.State(), c.State()
			kept := memory(b)
			spoil(a)
			says(t, c, shape(), want)
			if memory(b) != kept {
				t.Fatal("two results have memory in common")
			}
			for block := range 8 {
				c.Mark(block)
			}
			fill(c.Map(), dirties()[3])
			c.Commit(states()[3])
			if memory(b) != kept {
				t.Fatal("a result changes")
			}
			spoil(b)
			says(t, c, shape(), dirtied(states()[3], dirties()[3]...))
			opensAs(t, r, shape(), dirtied(states()[3], dirties()[3]...))
		}
	}
}

// P18.1: no two slices of a result share memory, not even where those of what was committed do.
func TestSlicesOfAResult(t *testing.T) {
	for _, s := range append(states(), entwined()) {
		r, c := formatted(t, shape())
		if e := c.Commit(s); e != api.OK {
			t.Fatal(e)
		}
		for _, c := range []*core.Core{c, opens(t, r)} {
			l := cells(c.State())
			for k, x := range l {
				var before []string
				for _, y := range l {
					before = append(before, y.text())
				}
				x.spoil()
				for i, y := range l {
					if i != k && y.text() != before[i] {
						t.Fatalf("%v: slice %d is slice %d", s, k, i)
					}
				}
			}
			says(t, c, shape(), dirtied(s, -1, -1, -1, -1))
		}
	}
}

// P18.2, P18.3: a state that is handed in is neither changed nor kept, its spare capacities included.
func TestCommitKeepsNothing(t *testing.T) {
	for _, s := range append(states(), entwined()) {
		for _, fuse := range []int{-1, 0, 3} {
			r, c := formatted(t, shape())
			fill(c.Map(), dirties()[4])
			given := spare(dirtied(s, 6, 0, -1, 5))
			before := memory(given)
			r.Arm(fuse)
			e := c.Commit(given)
			want := dirtied(s, dirties()[4]...)
			if e != api.OK {
				want = dirtied(states()[0], dirties()[4]...)
			}
			says(t, c, shape(), want)
			for block := range 8 {
				c.Mark(block)
			}
			if memory(given) != before {
				t.Fatalf("%v changed", s)
			}
			c.Map().Drop(3)
			c.State()
			marked := c.State()
			spoil(given)
			if now := c.State(); !state.Same(now, marked) {
				t.Fatalf("%v is kept: %v", s, now)
			}
		}
	}
}

// P18.3: neither is one that is not valid.
func TestNotValidKeepsNothing(t *testing.T) {
	for i, flaw := range flaws() {
		_, c := formatted(t, shape())
		s := state.Copy(states()[3])
		flaw(&s)
		given := spare(s)
		before := memory(given)
		if e := c.Commit(given); e != api.ErrForm || memory(given) != before {
			t.Fatal(i, e, s)
		}
		spoil(given)
		says(t, c, shape(), first(shape()))
	}
}

// P18.2: Mark changes the latest snapshot alone, also where what was committed has the same Changed for all.
func TestMarkOfEntwined(t *testing.T) {
	_, c := formatted(t, shape())
	s := entwined()
	s.Plan = api.Plan{}
	if e := c.Commit(s); e != api.OK {
		t.Fatal(e)
	}
	c.Mark(5)
	for i, snap := range c.State().Snaps {
		if want := []byte{0, 0, 32}[i]; !slices.Equal(snap.Changed, []byte{want}) {
			t.Error(i, snap)
		}
	}
	if e := c.Commit(api.State{Next: 9, Snaps: s.Snaps[:2]}); e != api.OK {
		t.Fatal(e)
	}
	c.Mark(5)
	for i, snap := range c.State().Snaps {
		if want := []byte{0, 32}[i]; !slices.Equal(snap.Changed, []byte{want}) {
			t.Error(i, snap)
		}
	}
}

// What is on one rig does not touch what is on another.
func TestApart(t *testing.T) {
	r, c := formatted(t, shape())
	q, d := formatted(t, ringed(9))
	l := states()
	for n := range 2 * len(l) {
		a, b := l[n%len(l)], l[(3*n+1)%len(l)]
		da, db := dirties()[n%6], dirties()[(n+1)%6]
		c.PutSlot(n%4, filled(n))
		d.PutSlot(n%4, filled(n+1))
		fill(c.Map(), da)
		fill(d.Map(), db)
		if e := c.Commit(a); e != api.OK {
			t.Fatal(e)
		}
		if e := d.Commit(b); e != api.OK {
			t.Fatal(e)
		}
		says(t, c, shape(), dirtied(a, da...))
		says(t, d, ringed(9), dirtied(b, db...))
		if x, e := c.Slot(n % 4); x != filled(n) || e != api.OK {
			t.Fatal(x, e)
		}
		c.Mark(3)
		says(t, d, ringed(9), dirtied(b, db...))
		if n%3 == 0 {
			crash(r, true)
			c = opensAs(t, r, shape(), dirtied(a, da...))
			says(t, d, ringed(9), dirtied(b, db...))
		}
		opensAs(t, q, ringed(9), dirtied(b, db...))
	}
}
