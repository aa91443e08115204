package pool

import (
	"math"
	"slices"
	"testing"

	"revetment/api"
)

// P12.1: the chapter's example.
func TestExample(t *testing.T) {
	for _, s := range []api.State{made(nil, []int{0, 2}), made([]int{2}, []int{0}), made([]int{0, 2})} {
		for _, area := range []int{4, 5, 200} {
			if l, e := Take(s, area, 2); !slices.Equal(l, []int{1, 3}) || e != api.OK {
				t.Error(s, area, l, e)
			}
		}
	}
}

// P12.1: Used by hand: of tables alone, of the plan alone, of both; twice in one, in two tables, in a table and in the plan; Zeros in each.
func TestUsedByHand(t *testing.T) {
	for _, x := range []struct {
		s    api.State
		want []int
	}{
		{made(nil, []int{0, 2}), []int{0, 2}}, {made(nil, []int{2, 0}), []int{0, 2}}, {made(nil, []int{2}, []int{0}), []int{0, 2}},
		{made([]int{2, 0}), []int{0, 2}}, {made([]int{0}, []int{2}), []int{0, 2}}, {made([]int{2}, []int{0}), []int{0, 2}},
		{made(nil, []int{5, 5}), []int{5}}, {made(nil, []int{5, 1, 5}), []int{1, 5}}, {made(nil, []int{5}, []int{5}), []int{5}}, {made(nil, []int{5}, nil, []int{4, 5, 6}), []int{4, 5, 6}},
		{made([]int{5, 5}), []int{5}}, {made([]int{5}, []int{5}), []int{5}}, {made([]int{5, 9}, []int{9}, []int{5}), []int{5, 9}},
		{made([]int{255}), nil}, {made([]int{255, 255, 3}), []int{3}}, {made([]int{255, 1}, []int{2}), []int{1, 2}}, {made([]int{254, 255, 256}), []int{254, 256}},
		{made(nil, []int{255}), []int{255}}, {made([]int{255}, []int{255}), []int{255}}, {made(nil, []int{1}, []int{255, 0}), []int{0, 1, 255}},
		{made([]int{-1, 10}, []int{10, -1}), []int{-1, 10}}, {made([]int{math.MinInt}, []int{math.MaxInt}), []int{math.MinInt, math.MaxInt}},
		{made([]int{511, -255, 255 + 1<<32}), []int{-255, 511, 255 + 1<<32}},
		{api.State{Dirty: []int{3, 4}, Next: 6, Plan: api.Plan{Kind: api.PlanNone, Id: 5, Pairs: []api.Pair{{Block: 8, At: 7}}}}, []int{7}},
		{api.State{Snaps: []api.Snap{{Id: 3, Changed: []byte{16}, Table: []api.Pair{{Block: 4, At: 9}, {Block: 4, At: 2}}}}}, []int{2, 9}},
	} {
		if l := Used(x.s); !slices.Equal(l, x.want) {
			t.Errorf("Used(%v) = %v, want %v", x.s, l, x.want)
		}
	}
}

// P12.1: where no snapshot and no plan has a block, none is used, and all are free.
func TestNothingUsed(t *testing.T) {
	for _, s := range none() {
		if l := Used(s); len(l) != 0 {
			t.Errorf("Used(%v) = %v", s, l)
		}
		for _, area := range areas() {
			if n := Free(s, area); n != max(area, 0) {
				t.Errorf("Free(%v, %d) = %d", s, area, n)
			}
		}
		for _, n := range []int{0, 1, 199, 200} {
			if l, e := Take(s, 200, n); !slices.Equal(l, seq(0, n)) || e != api.OK {
				t.Errorf("Take(%v, 200, %d) = %v, %v", s, n, l, e)
			}
		}
	}
}

// P12.1: Free by hand: used ones at both ends of the area, behind it and ahead of it; an area without blocks, with one, and far larger ones.
func TestFreeByHand(t *testing.T) {
	for _, x := range []struct {
		s             api.State
		area, expects int
	}{
		{made(nil, []int{0, 2}), 10, 8}, {made(nil, []int{0, 2}), 3, 1}, {made(nil, []int{0, 2}), 2, 1}, {made(nil, []int{0, 2}), 1, 0}, {made(nil, []int{0, 2}), 0, 0}, {made(nil, []int{0, 2}), -1, 0},
		{made(nil, []int{9}), 10, 9}, {made(nil, []int{10}), 10, 10}, {made(nil, []int{-1}), 10, 10}, {made([]int{-1, 9, 10}, []int{11, 8}), 10, 8},
		{made([]int{4}, []int{4, 4}, []int{4}), 10, 9}, {made([]int{4}, []int{4, 4}, []int{4}), 4, 4}, {made([]int{4}, []int{4, 4}, []int{4}), 5, 4},
		{made(seq(0, 10)), 10, 0}, {made(seq(0, 10)), 11, 1}, {made(seq(0, 10)), 9, 0}, {made(seq(0, 10), seq(5, 20)), 20, 0}, {made(seq(-10, 20)), 10, 0},
		{made([]int{255}), 300, 300}, {made(nil, []int{255}), 300, 299}, {made(nil, []int{255}), 256, 255}, {made(nil, []int{255}), 255, 255},
		{made(nil, []int{1}), 1 << 50, 1<<50 - 1}, {made(nil, []int{1, math.MaxInt}), math.MaxInt, math.MaxInt - 1}, {made(nil, []int{1, math.MaxInt - 1}), math.MaxInt, math.MaxInt - 2},
		{made(nil, []int{math.MinInt, -1, 0}), math.MaxInt, math.MaxInt - 1}, {made(nil, []int{math.MinInt, -5, -4}), -3, 0}, {made(nil, []int{math.MinInt}), math.MinInt, 0}, {made(nil, []int{1 << 32}), 1, 1},
	} {
		if n := Free(x.s, x.area); n != x.expects {
			t.Errorf("Free(%v, %d) = %d, want %d", x.s, x.area, n, x.expects)
		}
	}
}

// P12.1: Take by hand: free blocks ahead of, between and behind the used ones; as many as are free, and one more.
func TestTakeByHand(t *testing.T) {
	s := made([]int{255, 7}, []int{4, 3}, []int{8, -1}) // 3, 4, 7 and 8 are used
	for _, x := range []struct {
		area, n int
		want    []int
		e       api.Errno
	}{
		{10, 0, nil, api.OK}, {10, 1, []int{0}, api.OK}, {10, 3, []int{0, 1, 2}, api.OK}, {10, 4, []int{0, 1, 2, 5}, api.OK}, {10, 5, []int{0, 1, 2, 5, 6}, api.OK}, {10, 6, []int{0, 1, 2, 5, 6, 9}, api.OK}, {10, 7, nil, api.ErrSpace},
		{9, 5, []int{0, 1, 2, 5, 6}, api.OK}, {9, 6, nil, api.ErrSpace}, {8, 5, []int{0, 1, 2, 5, 6}, api.OK}, {7, 5, []int{0, 1, 2, 5, 6}, api.OK}, {6, 5, nil, api.ErrSpace}, {6, 4, []int{0, 1, 2, 5}, api.OK},
		{4, 3, []int{0, 1, 2}, api.OK}, {3, 3, []int{0, 1, 2}, api.OK}, {3, 4, nil, api.ErrSpace}, {1, 1, []int{0}, api.OK}, {1, 2, nil, api.ErrSpace}, {1, 0, nil, api.OK},
		{0, 0, nil, api.OK}, {0, 1, nil, api.ErrSpace}, {-1, 0, nil, api.OK}, {-1, 1, nil, api.ErrSpace}, {math.MinInt, 0, nil, api.OK}, {math.MinInt, 4096, nil, api.ErrSpace},
		{12, 8, []int{0, 1, 2, 5, 6, 9, 10, 11}, api.OK}, {12, 9, nil, api.ErrSpace}, {math.MaxInt, 7, []int{0, 1, 2, 5, 6, 9, 10}, api.OK},
	} {
		if l, e := Take(s, x.area, x.n); !slices.Equal(l, x.want) || e != x.e {
			t.Errorf("Take(%d, %d) = %v, %v", x.area, x.n, l, e)
		}
	}
	if l, e := Take(made(nil, []int{0}), 1, 1); len(l) != 0 || e != api.ErrSpace {
		t.Error(l, e)
	}
	if l, e := Take(made([]int{0}), 2, 1); !slices.Equal(l, []int{1}) || e != api.OK {
		t.Error(l, e)
	}
}

// P12.1: Take of 4096, and of numbers that are not in the range, which are told ahead of a lack of room.
func TestTakeRange(t *testing.T) {
	for _, s := range []api.State{{}, made(nil, []int{0}), made(seq(0, 300)), made(nil, far()), made([]int{4095, 4097, 255})} {
		for _, area := range areas() {
			for _, n := range append(far(), -1, -4096, 4097, 4098, 8192) {
				if l, e := Take(s, area, n); len(l) != 0 || e != api.ErrArg {
					t.Errorf("Take(%v, %d, %d) = %v, %v", s, area, n, l, e)
				}
			}
			for _, n := range []int{0, 1, 4095, 4096} {
				l, e := Take(s, area, n)
				if want, wantE := toldTake(s, area, n); !slices.Equal(l, want) || e != wantE {
					t.Errorf("Take(%v, %d, %d) = %v, %v", s, area, n, l, e)
				}
			}
		}
	}
	for _, area := range []int{4097, 5000, 1 << 40, math.MaxInt} {
		if l, e := Take(made([]int{0}), area, 4096); !slices.Equal(l, seq(1, 4097)) || e != api.OK {
			t.Errorf("of %d: %d, %v", area, len(l), e)
		}
	}
	for _, area := range []int{4096, 4095, 1} {
		if l, e := Take(made([]int{0}), area, 4096); len(l) != 0 || e != api.ErrSpace {
			t.Errorf("of %d: %d, %v", area, len(l), e)
		}
	}
}

// P12.1: all functions on all samples, held against the document's words.
func TestSamples(t *testing.T) {
	for _, s := range samples() {
		used := toldUsed(s)
		if l := Used(s); !slices.Equal(l, used) {
			t.Fatalf("Used(%v) = %v, want %v", s, l, used)
		}
		for _, area := range areas() {
			free := toldFree(used, area)
			if n := Free(s, area); n != free {
				t.Fatalf("Free(%v, %d) = %d, want %d", s, area, n, free)
			}
			if area > 300 {
				continue
			}
			for _, n := range []int{-1, 0, 1, 2, free / 2, free - 1, free, free + 1, 4096, 4097} {
				l, e := Take(s, area, n)
				if want, wantE := toldTake(s, area, n); !slices.Equal(l, want) || e != wantE {
					t.Fatalf("Take(%v, %d, %d) = %v, %v, want %v, %v", s, area, n, l, e, want, wantE)
				}
			}
		}
	}
}

// every calls f with each state of up to three pairs, each with one of these Ats, in one of two tables or in the plan.
func every(f func(s api.State)) {
	ats := []int{-1, 0, 1, 2, 3, 255}
	var add func(places [3][]int, left int)
	add = func(places [3][]int, left int) {
		f(made(places[0], places[1], places[2]))
		if left == 0 {
			return
		}
		for p := range places {
			for _, at := range ats {
				next := places
				next[p] = append(slices.Clone(places[p]), at)
				add(next, left-1)
			}
		}
	}
	add([3][]int{}, 3)
}

// P12.1: every small state, with each small area and each small n, held against the document's words.
func TestEverySmallState(t *testing.T) {
	every(func(s api.State) {
		used := toldUsed(s)
		if l := Used(s); !slices.Equal(l, used) {
			t.Fatalf("Used(%v) = %v", s, l)
		}
		for area := -1; area <= 5; area++ {
			if n := Free(s, area); n != toldFree(used, area) {
				t.Fatalf("Free(%v, %d) = %d", s, area, n)
			}
			for n := -1; n <= 6; n++ {
				l, e := Take(s, area, n)
				if want, wantE := toldTake(s, area, n); !slices.Equal(l, want) || e != wantE {
					t.Fatalf("Take(%v, %d, %d) = %v, %v", s, area, n, l, e)
				}
			}
		}
	})
}

// P12.2: what Take returns is not in Used, lies in the area and rises; once it is used too, so many fewer are free, and the next Take returns others.
func TestTakenAreFree(t *testing.T) {
	for _, s := range samples() {
		for _, area := range []int{1, 2, 10, 200, 256, 4096, math.MaxInt} {
			free := Free(s, area)
			for _, n := range []int{1, 2, free / 2, free} {
				if n > min(free, 400) {
					continue
				}
				l, e := Take(s, area, n)
				if e != api.OK || len(l) != n {
					t.Fatalf("Take(%v, %d, %d) = %v, %v", s, area, n, l, e)
				}
				last := -1
				for _, at := range l {
					if at <= last || at >= area || slices.Contains(Used(s), at) || uses(s, at) {
						t.Fatalf("Take(%v, %d, %d): %d in %v", s, area, n, at, l)
					}
					last = at
				}
				holdsApart(t, s, area, l)
			}
		}
	}
}

// holdsApart adds a snapshot that holds the blocks that were taken from the area.
func holdsApart(t *testing.T, s api.State, area int, taken []int) {
	t.Helper()
	free := Free(s, area)
	s.Snaps = append(slices.Clone(s.Snaps), api.Snap{Id: 99, Table: pairs(taken...)})
	if Free(s, area) != free-len(taken) {
		t.Fatalf("%v of %d: %v behind %v", taken, area, Free(s, area), free)
	}
	for _, at := range taken {
		if !slices.Contains(Used(s), at) {
			t.Fatalf("%d is not used", at)
		}
	}
	again, _ := Take(s, area, min(free-len(taken), 50))
	for _, at := range again {
		if slices.Contains(taken, at) {
			t.Fatalf("%d is taken twice", at)
		}
	}
}

// Long tables and plans are quick too.
func TestLong(t *testing.T) {
	const n = 300000
	down := seq(0, n)
	slices.Reverse(down)
	s := made(down, seq(0, n/2), down)
	if l := Used(s); len(l) != n || l[0] != 0 || l[n-1] != n-1 {
		t.Error(len(l))
	}
	s.Plan.Pairs[0].At = api.Zeros
	if f := Free(s, n+10); f != 10 {
		t.Error(f)
	}
	if l, e := Take(s, n+10, 10); !slices.Equal(l, seq(n, n+10)) || e != api.OK {
		t.Error(l, e)
	}
	if l, e := Take(s, math.MaxInt, 4096); !slices.Equal(l, seq(n, n+4096)) || e != api.OK {
		t.Error(len(l), e)
	}
	if l, e := Take(s, n, 1); len(l) != 0 || e != api.ErrSpace {
		t.Error(l, e)
	}
}
