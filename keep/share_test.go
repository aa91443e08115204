package keep_test

import (
	"slices"
	"testing"

	"revetment/api"
	"revetment/keep"
	"revetment/state"
)

// P19.2: the list that is handed in stays as it was, its spare capacity included, and is not kept.
func TestListStays(t *testing.T) {
	for i, x := range plain(16) {
		for _, fuse := range []int{-1, 0, 3} {
			_, c := x.made(t)
			all := held(c)
			slices.Reverse(all)
			for _, l := range [][]int{all, append(slices.Clone(all), all[0]), append([]int{8}, all...), all[:1], nil} {
				r, c := x.made(t)
				room := slices.Concat(l, []int{-7, 3, 77})
				before := slices.Clone(room)
				r.Arm(fuse)
				keep.Copy(c, room[:len(l)])
				if !slices.Equal(room, before) {
					t.Fatal(i, fuse, room, before)
				}
				s := c.State()
				for k := range room {
					room[k] = 6
				}
				if !state.Same(c.State(), s) {
					t.Fatal(i, fuse, c.State())
				}
				looks(t, c)
			}
		}
	}
}

// P19.1: what All returns is the caller's, its spare capacity included: changing it changes neither the core nor what another call returns.
func TestAllIsTheCallers(t *testing.T) {
	for i, x := range plain(16) {
		_, c := x.made(t)
		s := c.State()
		a, b := keep.All(c), keep.All(c)
		want := slices.Clone(b)
		for k := range a[:cap(a)] {
			a[:cap(a)][k] = -97
		}
		if !slices.Equal(b, want) || !slices.Equal(keep.All(c), want) || !state.Same(c.State(), s) {
			t.Error(i, b)
		}
		if e := keep.Copy(c, b); e != api.OK { // what it tells may be handed in
			t.Error(i, e)
		}
		if !slices.Equal(b, want) {
			t.Error(i, b)
		}
	}
}

// What is on one rig does not touch what is on another.
func TestApart(t *testing.T) {
	for i, x := range plain(16) {
		_, c := x.made(t)
		for k, y := range plain(16) {
			q, d := y.made(t)
			before, done := d.State(), q.Done()
			copied := held(c)
			if len(copied) > 0 {
				copied = copied[:1]
			}
			if e := keep.Copy(c, copied); e != api.OK {
				t.Fatal(i, k, e)
			}
			if q.Done() != done || !state.Same(d.State(), before) {
				t.Fatal(i, k, d.State())
			}
			looks(t, c)
			looks(t, d)
		}
	}
}
