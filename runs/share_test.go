package runs

import (
	"slices"
	"testing"

	"revetment/api"
)

// whole returns all of a slice's memory.
func whole[T any](l []T) []T {
	return l[:cap(l)]
}

// spare returns a copy of l with spare capacity that is filled.
func spare[T any](l []T, fill ...T) []T {
	return slices.Concat(l, slices.Repeat(fill, 9))[:len(l)]
}

// spareRuns is spare with runs that would each change the result, were they seen.
func spareRuns(l []api.Run) []api.Run {
	return spare(l, list(0, 1, -77, -78, 5, 2)...)
}

// No function changes its argument, nor what is behind its end; that is no part of it either.
func TestArgumentsStay(t *testing.T) {
	for _, was := range samples() {
		next := 0
		if len(was) > 0 {
			next = was[len(was)-1] + 1
		}
		l := spare(was, next, next+1, -77)
		before := slices.Clone(whole(l))
		if got := Of(l); !slices.Equal(got, toldOf(was)) {
			t.Errorf("Of(%v) = %v", was, got)
		}
		if !slices.Equal(whole(l), before) {
			t.Errorf("%v: changed", was)
		}
	}
	for _, was := range runSamples() {
		l := spareRuns(was)
		before := slices.Clone(whole(l))
		if got := Blocks(l); !slices.Equal(got, toldBlocks(was)) {
			t.Errorf("Blocks(%v): %d numbers", was, len(got))
		}
		for _, n := range []int{-1, 0, 1, 10, 5000, 70000} {
			if Good(l, n) != toldGood(was, n) {
				t.Errorf("Good(%v, %d) is %v", was, n, Good(l, n))
			}
		}
		if !slices.Equal(whole(l), before) {
			t.Errorf("%v: changed", was)
		}
	}
}

// apart spoils all memory of one of two results of the same call, and reports whether the other one and the next one stay.
func apart[T comparable](call func() []T, spoil T) bool {
	first, second := call(), call()
	kept := slices.Clone(whole(first))
	for i := range whole(second) {
		whole(second)[i] = spoil
	}
	return slices.Equal(whole(first), kept) && slices.Equal(call(), first)
}

// What Of and Blocks return is the caller's, its spare capacity too: no other call returns it, none depends on it, and it is not the argument's.
func TestResultsShareNothing(t *testing.T) {
	for _, was := range samples() {
		l := spare(was, -77)
		before := slices.Clone(whole(l))
		if !apart(func() []api.Run { return Of(l) }, api.Run{From: -99, Count: -98}) || !slices.Equal(whole(l), before) {
			t.Errorf("the runs of %v", was)
		}
	}
	for _, was := range runSamples() {
		l := spareRuns(was)
		before := slices.Clone(whole(l))
		if !apart(func() []int { return Blocks(l) }, -99) || !slices.Equal(whole(l), before) {
			t.Errorf("the numbers of %v", was)
		}
	}
}

// What was returned stays when its argument changes.
func TestResultsStay(t *testing.T) {
	l := []int{3, 4, 5, 9}
	found := Of(l)
	clear(l)
	blocks := Blocks(found)
	clear(found)
	if !slices.Equal(blocks, []int{3, 4, 5, 9}) {
		t.Error(blocks)
	}
	l = []int{3, 4, 5, 9}
	found = Of(l)
	clear(l)
	if !slices.Equal(found, list(3, 3, 9, 1)) {
		t.Error(found)
	}
}

// What is answered does not depend on the calls before.
func TestCallsAreApart(t *testing.T) {
	hold := func() {
		if !slices.Equal(Of([]int{6, 7, 2}), list(6, 2, 2, 1)) || !slices.Equal(Blocks(list(6, 2, 2, 1)), []int{6, 7, 2}) || !Good(list(2, 1, 6, 2), 8) || Good(list(2, 1, 6, 2), 7) {
			t.Error("it does")
		}
	}
	for _, l := range samples() {
		Of(l)
		hold()
	}
	for _, l := range runSamples() {
		Blocks(l)
		Good(l, 9)
		hold()
	}
}
