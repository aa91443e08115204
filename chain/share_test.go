package chain

import (
	"math"
	"slices"
	"testing"

	"revetment/api"
)

// whole returns all of a slice's memory.
func whole[T any](l []T) []T {
	return l[:cap(l)]
}

// spare returns l in memory of its own, each of its slices with spare capacity that is filled.
func spare(l []api.Snap) []api.Snap {
	var out []api.Snap
	for _, s := range append(slices.Clone(l), bare(3)...) {
		s.Changed = slices.Concat(s.Changed, []byte{77, 78, 79, 80, 81})[:len(s.Changed)]
		s.Table = slices.Concat(s.Table, slices.Repeat(pairs(-77, -78), 9))[:len(s.Table)]
		out = append(out, s)
	}
	return out[:len(l)]
}

// memory returns what l's memory holds, spare capacities included, in new memory.
func memory(l []api.Snap) []api.Snap {
	out := slices.Clone(whole(l))
	for i, s := range out {
		out[i].Changed, out[i].Table = slices.Clone(whole(s.Changed)), slices.Clone(whole(s.Table))
	}
	return out
}

// spoil changes everything in l's memory, spare capacities included.
func spoil(l []api.Snap) {
	for i, s := range whole(l) {
		for k := range whole(s.Changed) {
			whole(s.Changed)[k] ^= 0x55
		}
		for k := range whole(s.Table) {
			whole(s.Table)[k] = api.Pair{Block: -99, At: -98}
		}
		whole(l)[i] = api.Snap{Id: -97, Changed: []byte{96}, Table: pairs(95, 94)}
	}
}

// shared returns snapshots that have one set and one table together, one behind the other's end.
func shared() []api.Snap {
	set, table := []byte{7, 7, 7, 7}, pairs(0, 1, 1, 2, 2, 3)
	return []api.Snap{{Id: 1, Changed: set[:1], Table: table[:1]}, {Id: 2, Changed: set[:1], Table: table}, {Id: 3, Changed: set, Table: table[1:2]}, {Id: 4, Changed: set[1:2], Table: table[:2]}}
}

// calls are Drop and Cut at each of l's indexes and beyond.
func calls(l []api.Snap) []func(l []api.Snap) []api.Snap {
	var out []func(l []api.Snap) []api.Snap
	for i := -1; i <= len(l); i++ {
		out = append(out, func(l []api.Snap) []api.Snap { return Drop(l, i) }, func(l []api.Snap) []api.Snap { return Cut(l, i) })
	}
	return out
}

// No function changes a chain that it is given, nor what is behind an end of it or of its slices.
func TestArgumentsStay(t *testing.T) {
	for _, was := range append(samples(), shared()) {
		l := spare(was)
		before := memory(l)
		for _, i := range indexes(l) {
			Holder(l, i, 2)
			Drop(l, i)
			Cut(l, i)
			for _, j := range indexes(l) {
				Changed(l, i, j)
			}
		}
		for _, n := range []int{-1, 0, 1, 4, 5, 8, 64, 200, 4096, math.MaxInt} {
			Good(l, n, n)
			Good(l, n, math.MaxInt)
			Index(l, n)
		}
		if !same(memory(l), before) {
			t.Errorf("%v: changed", was)
		}
	}
}

// What is behind an end is no part of a chain, of a set or of a table.
func TestSpareIsNoPart(t *testing.T) {
	for _, was := range samples() {
		l := spare(was)
		for _, i := range indexes(l) {
			if !same(Drop(l, i), Drop(was, i)) || !same(Cut(l, i), Cut(was, i)) || !slices.Equal(Changed(l, i, math.MaxInt), Changed(was, i, math.MaxInt)) {
				t.Errorf("%v: index %d", was, i)
			}
			if _, ok := Holder(l, i, -77); ok {
				t.Errorf("%v: index %d: a block behind the end", was, i)
			}
		}
		if Good(l, 64, 200) != Good(was, 64, 200) || Good(l, 5, 8) != Good(was, 5, 8) {
			t.Errorf("%v: Good", was)
		}
	}
}

// What Drop and Cut return shares nothing with what they are given, in either direction, nor with what another call returns.
func TestResultsShareNothing(t *testing.T) {
	for _, was := range append(samples(), shared()) {
		for k, call := range calls(was) {
			l := spare(was)
			before := memory(l)
			spoil(call(l))
			if !same(memory(l), before) {
				t.Fatalf("%v, call %d: the result is the argument's", was, k)
			}
			m, again := call(l), call(l)
			kept := memory(m)
			spoil(again)
			spoil(l)
			if !same(memory(m), kept) {
				t.Fatalf("%v, call %d: the result changes", was, k)
			}
		}
	}
}

// No two slices of one result share memory, not even where those of the argument do.
func TestSlicesOfAResultShareNothing(t *testing.T) {
	for _, was := range append(samples(), shared()) {
		for k, call := range calls(was) {
			m := call(was)
			for i := range m {
				before := memory(m)
				for b := range whole(m[i].Changed) {
					whole(m[i].Changed)[b] ^= 0x55
				}
				for p := range whole(m[i].Table) {
					whole(m[i].Table)[p].At ^= 0x55
				}
				after := memory(m)
				if !same(slices.Delete(before, i, i+1), slices.Delete(after, i, i+1)) {
					t.Fatalf("%v, call %d: snapshot %d of the result shares", was, k, i)
				}
			}
		}
	}
}

// What Changed returns is the caller's, its spare capacity too.
func TestChangedIsNew(t *testing.T) {
	for _, was := range append(samples(), shared()) {
		for i := range was {
			for j := i; j <= len(was); j++ {
				l := spare(was)
				before := memory(l)
				b, again := Changed(l, i, j), Changed(l, i, j)
				kept := slices.Clone(whole(b))
				for k := range whole(again) {
					whole(again)[k] ^= 0x55
				}
				if !same(memory(l), before) {
					t.Fatalf("Changed(%v, %d, %d): the result is the argument's", was, i, j)
				}
				spoil(l)
				if !slices.Equal(whole(b), kept) {
					t.Fatalf("Changed(%v, %d, %d): the result changes", was, i, j)
				}
			}
		}
	}
}

// What is answered does not depend on the calls before.
func TestCallsAreApart(t *testing.T) {
	for _, before := range samples() {
		Good(before, 5, 8)
		Holder(before, 0, 2)
		Changed(before, 0, len(before))
		Drop(before, 1)
		Cut(before, 1)
		if !Good(three(), 5, 8) || Index(three(), 4) != 1 || !slices.Equal(Changed(three(), 0, 2), []byte{0b01101}) {
			t.Errorf("behind %v", before)
		}
		if at, ok := Holder(three(), 1, 4); at != 2 || !ok {
			t.Errorf("behind %v: %d, %v", before, at, ok)
		}
		if !same(Drop(three(), 0), three()[1:]) || !same(Cut(three(), 0), []api.Snap{snap(3, 0)}) {
			t.Errorf("behind %v", before)
		}
	}
}
