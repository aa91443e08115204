package runs

import (
	"math"
	"math/rand"
	"slices"
	"testing"

	"revetment/api"
)

// P15.1: Good by hand: no runs, Counts below 1, the ends of 0 to n - 1, and two runs in each relation.
func TestGoodByHand(t *testing.T) {
	for _, x := range []struct {
		l    []api.Run
		n    int
		good bool
	}{
		{nil, 0, true},
		{[]api.Run{}, 0, true},
		{list(-1, 0)[:0], 10, true},
		{nil, -3, true},
		{nil, 10, true},
		{list(0, 0), 10, false},
		{list(5, 0), 10, false},
		{list(10, 0), 10, false},
		{list(5, -1), 10, false},
		{list(5, -5), 10, false},
		{list(5, math.MinInt), 10, false},
		{list(0, math.MinInt), 10, false},
		{list(9, math.MinInt), math.MaxInt, false},
		{list(0, 0), 0, false},
		{list(0, 1), 0, false},
		{list(0, 1), 1, true},
		{list(0, 2), 1, false},
		{list(1, 1), 1, false},
		{list(0, 1), -1, false},
		{list(-1, 1), 0, false},
		{list(-1, 1), 10, false},
		{list(-1, 2), 10, false},
		{list(-1, 11), 10, false},
		{list(-5, 3), 10, false},
		{list(-5, 3), -1, false},
		{list(math.MinInt, 1), 10, false},
		{list(math.MinInt, math.MaxInt), 10, false},
		{list(0, 9), 10, true},
		{list(0, 10), 10, true},
		{list(0, 11), 10, false},
		{list(4, 5), 10, true},
		{list(4, 6), 10, true},
		{list(4, 7), 10, false},
		{list(8, 1), 10, true},
		{list(9, 1), 10, true},
		{list(9, 2), 10, false},
		{list(10, 1), 10, false},
		{list(11, 1), 10, false},
		{list(1, math.MaxInt), 10, false},
		{list(2, math.MaxInt-1), 10, false},
		{list(math.MaxInt, 1), 10, false},
		{list(math.MaxInt, math.MaxInt), 10, false},
		{list(0, 3, 4, 6), 10, true},
		{list(0, 3, 4, 7), 10, false},
		{list(0, 3, 5, 5), 10, true},
		{list(0, 3, 9, 1), 10, true},
		{list(0, 3, 10, 1), 10, false},
		{list(0, 3, 3, 6), 10, false},
		{list(0, 3, 2, 1), 10, false},
		{list(0, 3, 0, 3), 10, false},
		{list(0, 9, 3, 2), 10, false},
		{list(5, 1, 1, 1), 10, false},
		{list(5, 5, 0, 3), 10, false},
		{list(5, 1, 4, 1), 10, false},
		{list(5, 1, -1, 1), 10, false},
		{list(0, 1, 2, 1, 4, 6), 10, true},
		{list(0, 1, 2, 1, 4, 1, 6, 1, 8, 1), 10, true},
		{list(0, 1, 2, 1, 3, 1), 10, false},
		{list(0, 1, 1, 1, 3, 1), 10, false},
		{list(0, 1, 4, 1, 2, 1), 10, false},
		{list(4, 1, 0, 1, 6, 1), 10, false},
		{list(0, 1, 2, 0, 4, 1), 10, false},
		{list(0, 1, 4, -1, 6, 1), 10, false},
		{list(0, 5, 4, -3, 6, 1), 10, false},
		{list(0, 0, 2, 1), 10, false},
		{list(-2, 1, 2, 1), 10, false},
		{list(0, 1, 2, 1, 4, 0), 10, false},
		{list(0, 11, 12, 1), 10, false},
		{list(0, 1, 2, 20, 4, 1), 10, false},
	} {
		if Good(x.l, x.n) != x.good {
			t.Errorf("Good(%v, %d) is %v", x.l, x.n, !x.good)
		}
	}
}

// P15.1: an n at both ends of the type, and runs that end at the type's greatest number or would end behind it.
func TestGoodAtTheEnds(t *testing.T) {
	const most, least = math.MaxInt, math.MinInt
	for _, x := range []struct {
		l    []api.Run
		n    int
		good bool
	}{
		{nil, most, true},
		{nil, least, true},
		{list(0, 1), least, false},
		{list(0, most), least, false},
		{list(5, 1), least, false},
		{list(most, 1), least, false},
		{list(least, 1), least, false},
		{list(least, 1), least + 1, false},
		{list(0, 1), least + 1, false},
		{list(least, 1), most, false},
		{list(-1, 1), most, false},
		{list(0, most), most, true},
		{list(0, most-1), most, true},
		{list(0, most), most - 1, false},
		{list(0, most-1), most - 1, true},
		{list(1, most), most, false},
		{list(1, most-1), most, true},
		{list(2, most), most, false},
		{list(2, most-1), most, false},
		{list(most-1, 1), most, true},
		{list(most-1, 2), most, false},
		{list(most-1, 3), most, false},
		{list(most-1, most), most, false},
		{list(most, 1), most, false},
		{list(most, 0), most, false},
		{list(0, 1, most-1, 1), most, true},
		{list(0, most-2, most-1, 1), most, true},
		{list(0, most-1, most-1, 1), most, false},
		{list(0, most, most, 1), most, false},
		{list(0, most, 0, 1), most, false},
		{list(1, most-1, 3, 1), most, false},
		{list(0, 1, 2, most), most, false},
		{list(0, 1, 2, most-2), most, true},
		{list(0, 1, 2, most-1), most, false},
	} {
		if Good(x.l, x.n) != x.good {
			t.Errorf("Good(%v, %d) is %v", x.l, x.n, !x.good)
		}
	}
}

// P15.1: every list of at most three runs about 0 to n - 1, for each small n; every two runs of numbers at the ends, for each such n; and all samples. All held against the document's words.
func TestGood(t *testing.T) {
	good := 0
	hold := func(l []api.Run, n int) {
		want := toldGood(l, n)
		if want && len(l) > 1 {
			good++
		}
		if Good(l, n) != want {
			t.Fatalf("Good(%v, %d) is %v", l, n, !want)
		}
	}
	each(3, pairs(seq(-1, 6), seq(-1, 4)), func(l []api.Run) {
		for n := -1; n < 8; n++ {
			hold(l, n)
		}
	})
	few := []int{math.MinInt, math.MinInt + 1, -1, 0, 1, 2, 1 << 62, math.MaxInt - 2, math.MaxInt - 1, math.MaxInt}
	each(2, pairs(few, few), func(l []api.Run) {
		for _, n := range few {
			hold(l, n)
		}
	})
	for _, l := range runSamples() {
		for _, n := range append(ends(), 0, 1, 10, 64, 200, 5000, 65536, 70000) {
			hold(l, n)
		}
	}
	if good == 0 {
		t.Error("no list of two runs was good")
	}
}

// P15.1: good lists of many runs, and what becomes of them when one number changes.
func TestGoodOfOneFault(t *testing.T) {
	r := rand.New(rand.NewSource(3))
	for range 50 {
		var l []api.Run
		n := r.Intn(3)
		for range 1 + r.Intn(20) {
			run := api.Run{From: n, Count: 1 + r.Intn(5)}
			l = append(l, run)
			n = run.From + run.Count + 1 + r.Intn(3)
		}
		last := l[len(l)-1]
		n = last.From + last.Count
		if !Good(l, n) || Good(l, n-1) || !Good(l, n+1) {
			t.Fatalf("%v, %d", l, n)
		}
		for i := range l {
			for _, by := range []int{-100, -3, -2, -1, 1, 2, 3, 100, math.MaxInt - 200, math.MinInt + 200} {
				from, count := slices.Clone(l), slices.Clone(l)
				from[i].From += by
				count[i].Count += by
				if Good(from, n) != toldGood(from, n) || Good(count, n) != toldGood(count, n) {
					t.Fatalf("run %d of %v changed by %d, %d", i, l, by, n)
				}
			}
		}
	}
}

// P15.1: the runs of every set of the numbers 0 to 9 are good, and so is no list with a run that is cut in two.
func TestGoodOfSets(t *testing.T) {
	for set := range 1 << 10 {
		var l []int
		for n := range 10 {
			if set>>n&1 == 1 {
				l = append(l, n)
			}
		}
		found := Of(l)
		if !Good(found, 10) {
			t.Fatalf("%v", found)
		}
		if len(l) > 0 && (Good(found, l[len(l)-1]) || !Good(found, l[len(l)-1]+1)) {
			t.Fatalf("%v: the end", found)
		}
		for i, run := range found {
			if run.Count > 1 {
				parts := list(run.From, 1, run.From+1, run.Count-1)
				if Good(slices.Replace(slices.Clone(found), i, i+1, parts...), 10) {
					t.Fatalf("%v: run %d in two", found, i)
				}
			}
		}
	}
}
