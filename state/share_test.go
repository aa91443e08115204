package state

import (
	"slices"
	"testing"

	"revetment/api"
)

// whole returns all of a slice's memory.
func whole[T any](l []T) []T {
	return l[:cap(l)]
}

// roomy returns l in memory of its own, with spare capacity that is filled.
func roomy[T any](l []T, filled ...T) []T {
	return slices.Concat(l, filled, filled, filled, filled, filled)[:len(l)]
}

// spare returns s in memory of its own, each of its slices with spare capacity that is filled.
func spare(s api.State) api.State {
	s = anew(s)
	s.Dirty = roomy(s.Dirty, 77, -1, 5)
	s.Plan.Pairs = roomy(s.Plan.Pairs, api.Pair{Block: -77, At: -78}, api.Pair{Block: 3, At: 2})
	for i, snap := range s.Snaps {
		s.Snaps[i].Changed = roomy(snap.Changed, 77, 0, 255)
		s.Snaps[i].Table = roomy(snap.Table, api.Pair{Block: -79, At: -80}, api.Pair{Block: 2, At: 1})
	}
	s.Snaps = roomy(s.Snaps, api.Snap{Id: 1000, Changed: []byte{70, 1}, Table: pairs(5, 6)}, api.Snap{Id: -5, Changed: []byte{71}})
	return s
}

// memory returns what s's memory holds, spare capacities included, in new memory.
func memory(s api.State) api.State {
	s.Dirty, s.Plan.Pairs, s.Snaps = slices.Clone(whole(s.Dirty)), slices.Clone(whole(s.Plan.Pairs)), slices.Clone(whole(s.Snaps))
	for i, snap := range s.Snaps {
		s.Snaps[i].Changed, s.Snaps[i].Table = slices.Clone(whole(snap.Changed)), slices.Clone(whole(snap.Table))
	}
	return s
}

// spoilers change everything in the memory of one slice of numbers of s each, spare capacities included.
func spoilers(s api.State) []func() {
	out := []func(){
		func() { spoil(s.Dirty, -97) },
		func() { spoil(s.Plan.Pairs, api.Pair{Block: -98, At: -99}) },
	}
	for _, snap := range whole(s.Snaps) {
		out = append(out, func() { spoil(snap.Changed, 0x5a) }, func() { spoil(snap.Table, api.Pair{Block: -95, At: -96}) })
	}
	return out
}

// parts are the slices that the spoilers change, in their order, each as a state of its own.
func parts(s api.State) []api.State {
	out := []api.State{{Dirty: s.Dirty}, {Plan: api.Plan{Pairs: s.Plan.Pairs}}}
	for _, snap := range whole(s.Snaps) {
		out = append(out, api.State{Snaps: []api.Snap{{Changed: snap.Changed}}}, api.State{Snaps: []api.Snap{{Table: snap.Table}}})
	}
	return out
}

func spoil[T any](l []T, with T) {
	for i := range whole(l) {
		whole(l)[i] = with
	}
}

// spoilAll changes everything in s's memory.
func spoilAll(s api.State) {
	for _, f := range spoilers(s) {
		f()
	}
	spoil(s.Snaps, api.Snap{Id: -94, Changed: []byte{93}, Table: pairs(92, 91)})
}

// entwined are states whose slices have memory in common.
func entwined() []api.State {
	l, set := pairs(0, 3, 1, 2, 2, 1, 3, 0), []byte{3, 0, 3, 0}
	snaps := []api.Snap{{Id: 1, Changed: set[:2], Table: l[:2]}, {Id: 2, Changed: set[:2], Table: l[:2]}, {Id: 3, Changed: set[1:], Table: l[1:]}}
	return []api.State{
		{Snaps: snaps, Plan: api.Plan{Pairs: l}},
		{Snaps: snaps[:2], Plan: api.Plan{Kind: api.PlanRoll, Id: 1, Pairs: l[:2]}, Next: 3, Dirty: []int{-1, -1, -1, -1, -1, -1}},
	}
}

// all are the samples and other states, with a geometry each.
func all() []sample {
	out := samples()
	for _, s := range slices.Concat(anyStates(), entwined()) {
		out = append(out, sample{shape(), s})
	}
	return out
}

// No function changes a state that it is given, nor what is behind an end of one of its slices; that is no part of it either.
func TestStatesStay(t *testing.T) {
	for _, x := range all() {
		s, other := spare(x.s), spare(x.s)
		before := memory(s)
		if Good(x.g, s) != Good(x.g, x.s) {
			t.Errorf("Good(%v, %v)", x.g, x.s)
		}
		b, e := Encode(x.g, s)
		if c, f := Encode(x.g, x.s); !slices.Equal(b, c) || e != f {
			t.Errorf("Encode(%v, %v) = %v, %v", x.g, x.s, b, e)
		}
		if !Same(s, x.s) || !Same(x.s, s) || !Same(s, other) || !equal(Copy(s), x.s) {
			t.Errorf("Same and Copy of %v", x.s)
		}
		other.Next++
		Same(s, other)
		Same(other, s)
		if !equal(memory(s), before) {
			t.Errorf("%v: changed", x.s)
		}
		other.Next--
		if !equal(memory(other), before) {
			t.Errorf("%v: changed, as the other one", x.s)
		}
	}
}

// Decode changes no bytes that it is given, nor those behind their end; and those are no part of them.
func TestBytesStay(t *testing.T) {
	for _, x := range samples() {
		b := toldBytes(x.g, x.s)
		for _, n := range []int{0, 1, len(b) - 1, len(b)} {
			given := roomy(b[:n], b[n:]...)
			given = slices.Concat(given, []byte{9, 8, 7})[:n]
			before := slices.Clone(whole(given))
			s, e := Decode(x.g, given)
			if n == len(b) && (e != api.OK || !equal(s, x.s)) || n < len(b) && e != api.ErrForm {
				t.Errorf("%v: %d bytes: %v, %v", x.g, n, s, e)
			}
			if !slices.Equal(whole(given), before) {
				t.Errorf("%v: %d bytes changed", x.g, n)
			}
		}
	}
}

// What Copy returns shares nothing with what it is given, in either direction, nor with what another call returns.
func TestCopySharesNothing(t *testing.T) {
	for _, x := range all() {
		s := spare(x.s)
		before := memory(s)
		spoilAll(Copy(s))
		if !equal(memory(s), before) {
			t.Fatalf("%v: the copy is the state", x.s)
		}
		c, again := Copy(s), Copy(s)
		kept := memory(c)
		spoilAll(again)
		spoilAll(s)
		if !equal(memory(c), kept) {
			t.Fatalf("%v: the copy changes", x.s)
		}
	}
}

// What Decode returns shares nothing with the bytes, nor with what another call returns.
func TestDecodedSharesNothing(t *testing.T) {
	for _, x := range samples() {
		b := toldBytes(x.g, x.s)
		before := slices.Clone(b)
		s, _ := Decode(x.g, b)
		again, _ := Decode(x.g, b)
		kept := memory(s)
		spoilAll(again)
		if !slices.Equal(b, before) {
			t.Fatalf("%v: the state is the bytes", x)
		}
		spoil(b, 0x5a)
		if !equal(memory(s), kept) {
			t.Fatalf("%v: the state changes", x)
		}
	}
}

// No two slices of one result share memory, not even where those of the argument do.
func TestSlicesOfAResultShareNothing(t *testing.T) {
	apart := func(s api.State) {
		for k, f := range spoilers(s) {
			var before []api.State
			for _, p := range parts(s) {
				before = append(before, memory(p))
			}
			f()
			for i, p := range parts(s) {
				if i != k && !equal(memory(p), before[i]) {
					t.Fatalf("%v: slice %d is slice %d", s, k, i)
				}
			}
		}
	}
	for _, x := range all() {
		apart(Copy(x.s))
	}
	for _, x := range samples() {
		s, _ := Decode(x.g, toldBytes(x.g, x.s))
		apart(s)
	}
}

// What First and Encode return is the caller's, its spare capacity too: no other call returns it, and none depends on it.
func TestResultsAreTheCallers(t *testing.T) {
	for _, x := range samples() {
		s := spare(x.s)
		before := memory(s)
		first, _ := First(x.g)
		firstAgain, _ := First(x.g)
		b, _ := Encode(x.g, s)
		again, _ := Encode(x.g, s)
		keptFirst, kept := memory(first), slices.Clone(whole(b))
		spoilAll(firstAgain)
		spoil(again, 0x5a)
		if !equal(memory(first), keptFirst) || !slices.Equal(whole(b), kept) || !equal(memory(s), before) {
			t.Fatalf("%v: the result changes", x)
		}
		spoilAll(s)
		if !slices.Equal(whole(b), kept) {
			t.Fatalf("%v: the result is the argument's", x)
		}
		if c, e := First(x.g); e != api.OK || !equal(c, first) {
			t.Fatalf("First(%v) = %v, %v", x.g, c, e)
		}
	}
}

// What is answered does not depend on the calls before.
func TestCallsAreApart(t *testing.T) {
	want := toldBytes(shape(), full())
	for _, x := range all() {
		First(x.g)
		Good(x.g, x.s)
		Encode(x.g, x.s)
		Decode(x.g, want[:9])
		Same(x.s, full())
		Copy(x.s)
		b, e := Encode(shape(), full())
		s, f := Decode(shape(), want)
		if !Good(shape(), full()) || !slices.Equal(b, want) || e != api.OK || !equal(s, full()) || f != api.OK || !Same(s, full()) || !equal(Copy(s), full()) {
			t.Errorf("behind %v", x)
		}
	}
}
