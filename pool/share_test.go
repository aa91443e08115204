package pool

import (
	"slices"
	"testing"

	"revetment/api"
)

// spare returns s in memory of its own, each of its slices with spare capacity that is filled.
func spare(s api.State) api.State {
	var snaps []api.Snap
	for _, snap := range slices.Concat(s.Snaps, []api.Snap{{Id: 50, Table: pairs(3)}, {Id: 51, Table: pairs(4)}}) {
		snap.Changed = slices.Concat(snap.Changed, []byte{77, 78, 79})[:len(snap.Changed)]
		snap.Table = slices.Concat(snap.Table, pairs(-77, 0, 1, 2, 3, 4, 5))[:len(snap.Table)]
		snaps = append(snaps, snap)
	}
	pending := s.Plan.Pairs
	s.Dirty = slices.Concat(s.Dirty, []int{5, 6, 7})[:len(s.Dirty)]
	s.Snaps = snaps[:len(s.Snaps)]
	s.Plan.Pairs = slices.Concat(pending, pairs(-78, 5, 4, 3, 2, 1, 0))[:len(pending)]
	return s
}

// whole returns all of a slice's memory.
func whole[T any](l []T) []T {
	return l[:cap(l)]
}

// memory returns what s's memory holds, spare capacities included, in new memory.
func memory(s api.State) api.State {
	s.Dirty = slices.Clone(whole(s.Dirty))
	s.Plan.Pairs = slices.Clone(whole(s.Plan.Pairs))
	s.Snaps = slices.Clone(whole(s.Snaps))
	for i, snap := range s.Snaps {
		s.Snaps[i].Changed, s.Snaps[i].Table = slices.Clone(whole(snap.Changed)), slices.Clone(whole(snap.Table))
	}
	return s
}

// same reports whether two states are equal in everything.
func same(a, b api.State) bool {
	return slices.Equal(a.Dirty, b.Dirty) && a.Next == b.Next && a.Plan.Kind == b.Plan.Kind && a.Plan.Id == b.Plan.Id && slices.Equal(a.Plan.Pairs, b.Plan.Pairs) &&
		slices.EqualFunc(a.Snaps, b.Snaps, func(x, y api.Snap) bool {
			return x.Id == y.Id && slices.Equal(x.Changed, y.Changed) && slices.Equal(x.Table, y.Table)
		})
}

// No function changes a state that it is given, nor what is behind an end of one of its slices; that is no part of it either.
func TestArgumentsStay(t *testing.T) {
	for _, was := range samples() {
		s := spare(was)
		before := memory(s)
		if !slices.Equal(Used(s), Used(was)) {
			t.Errorf("Used(%v) = %v", was, Used(s))
		}
		for _, area := range []int{-1, 0, 1, 5, 200, 300} {
			if Free(s, area) != Free(was, area) {
				t.Errorf("Free(%v, %d) = %d", was, area, Free(s, area))
			}
			for _, n := range []int{-1, 0, 1, 3, 100, 4097} {
				l, e := Take(s, area, n)
				if want, wantE := Take(was, area, n); !slices.Equal(l, want) || e != wantE {
					t.Errorf("Take(%v, %d, %d) = %v, %v", was, area, n, l, e)
				}
			}
		}
		if !same(memory(s), before) {
			t.Errorf("%v: changed", was)
		}
	}
}

// What Used and Take return is the caller's, its spare capacity too: no other call returns it, and none depends on it.
func TestResultsShareNothing(t *testing.T) {
	for _, s := range samples() {
		before := memory(s)
		for _, call := range []func() []int{
			func() []int { return Used(s) },
			func() []int { l, _ := Take(s, 300, 2); return l },
			func() []int { l, _ := Take(s, 5000, 4096); return l },
		} {
			first, second := call(), call()
			kept := slices.Clone(whole(first))
			for i := range whole(second) {
				whole(second)[i] = -99
			}
			if !slices.Equal(whole(first), kept) || !slices.Equal(call(), first) {
				t.Fatalf("%v: the result changes", s)
			}
		}
		if !same(memory(s), before) {
			t.Fatalf("%v: the result is the argument's", s)
		}
	}
}

// What is answered does not depend on the calls before.
func TestCallsAreApart(t *testing.T) {
	s := made([]int{255, 7}, []int{4, 3})
	for _, before := range samples() {
		Used(before)
		Free(before, 9)
		Take(before, 200, 20)
		l, e := Take(s, 7, 5)
		if !slices.Equal(Used(s), []int{3, 4, 7}) || Free(s, 9) != 6 || !slices.Equal(l, []int{0, 1, 2, 5, 6}) || e != api.OK {
			t.Errorf("behind %v", before)
		}
	}
}
