package runs

import (
	"math"
	"math/big"
	"math/rand"
	"slices"

	"revetment/api"
)

// list makes runs of numbers: a From, its Count, the next From, and so on.
func list(l ...int) []api.Run {
	var out []api.Run
	for i := 0; i+1 < len(l); i += 2 {
		out = append(out, api.Run{From: l[i], Count: l[i+1]})
	}
	return out
}

// seq returns the numbers from a to b - 1.
func seq(a, b int) []int {
	var out []int
	for i := a; i < b; i++ {
		out = append(out, i)
	}
	return out
}

// sum is a + b, however large it is.
func sum(a, b int) *big.Int {
	return new(big.Int).Add(big.NewInt(int64(a)), big.NewInt(int64(b)))
}

// toldOf follows the document's words: it first tells where runs begin, then how far each one extends.
func toldOf(l []int) []api.Run {
	var begins []int
	for i, n := range l {
		if i == 0 || l[i-1] >= 4611686018427387904 || sum(l[i-1], 1).Cmp(big.NewInt(int64(n))) != 0 {
			begins = append(begins, i)
		}
	}
	var out []api.Run
	for i, begin := range begins {
		end := len(l)
		if i+1 < len(begins) {
			end = begins[i+1]
		}
		out = append(out, api.Run{From: l[begin], Count: end - begin})
	}
	return out
}

// toldBlocks follows the document's words: it first lists the numbers of all runs in the ranges, then leaves those behind the bound.
func toldBlocks(l []api.Run) []int {
	var out []int
	for _, r := range l {
		if 0 <= r.From && r.From < 65536 && 0 < r.Count && r.Count < 4097 {
			out = append(out, seq(r.From, r.From+r.Count)...)
		}
	}
	return out[:min(len(out), 65536)]
}

// toldGood follows the document's words, one after the other, each for all runs.
func toldGood(l []api.Run, n int) bool {
	for _, r := range l {
		if r.Count < 1 {
			return false
		}
	}
	for _, r := range l {
		if r.From < 0 || sum(r.From, r.Count).Cmp(big.NewInt(int64(n))) > 0 {
			return false
		}
	}
	for i := 1; i < len(l); i++ {
		between := sum(l[i-1].From, l[i-1].Count)
		if between.Cmp(big.NewInt(int64(l[i].From))) >= 0 {
			return false
		}
	}
	return true
}

// each calls f for every list of at most n of these elements.
func each[T any](n int, of []T, f func(l []T)) {
	var grow func(l []T)
	grow = func(l []T) {
		f(slices.Clone(l))
		if len(l) == n {
			return
		}
		for _, x := range of {
			grow(append(slices.Clone(l), x))
		}
	}
	grow(nil)
}

// pairs returns every run of these Froms and Counts.
func pairs(froms, counts []int) []api.Run {
	var out []api.Run
	for _, from := range froms {
		for _, count := range counts {
			out = append(out, api.Run{From: from, Count: count})
		}
	}
	return out
}

// ends are numbers at both ends of the type, about 2^62 and its like below 0, and where fewer bits end.
func ends() []int {
	return []int{
		math.MinInt, math.MinInt + 1, math.MinInt + 2, -1<<62 - 1, -1 << 62, -1<<62 + 1, -1 << 32, math.MinInt32, -65536,
		1 << 20, math.MaxInt32, 1 << 31, 1<<32 - 1, 1 << 32, 1<<32 + 1,
		1<<62 - 2, 1<<62 - 1, 1 << 62, 1<<62 + 1, 1<<62 + 2, math.MaxInt - 2, math.MaxInt - 1, math.MaxInt,
	}
}

// numbers returns a list of n numbers from 0 to limit - 1, among them runs of at most longest, in no order.
func numbers(r *rand.Rand, n, limit, longest int) []int {
	var out []int
	for len(out) < n {
		from := r.Intn(limit)
		count := min(1+r.Intn(longest), limit-from, n-len(out))
		if len(out) > 0 && out[len(out)-1]+1 == from {
			continue // it would be one run with the one before
		}
		out = append(out, seq(from, from+count)...)
	}
	return out
}

// mixed returns so many runs, some of which are in the ranges of Blocks.
func mixed(r *rand.Rand, n, longest int) []api.Run {
	var out []api.Run
	for range n {
		out = append(out, api.Run{From: r.Intn(70000) - 2000, Count: r.Intn(longest) - longest/8})
	}
	return out
}

// samples are lists of numbers of all sorts.
func samples() [][]int {
	out := [][]int{
		nil, {}, seq(3, 9)[:0], {7}, {-1}, {0}, {3, 4, 5, 9}, {5, 4, 3}, {2, 2, 2}, {0, 2, 4},
		{5, 6, 5, 6}, seq(-4, 5), seq(0, 5000), ends(), slices.Concat(ends(), ends()),
		{math.MaxInt, math.MinInt, math.MinInt + 1}, seq(1<<62-3, 1<<62+4), seq(math.MaxInt-5, math.MaxInt),
	}
	r := rand.New(rand.NewSource(15))
	for i := range 60 {
		out = append(out, numbers(r, 1+i*7, 1+i*3, 1+i%9))
	}
	return out
}

// runSamples are lists of runs of all sorts, most of them not good.
func runSamples() [][]api.Run {
	out := [][]api.Run{
		list(0, 1, -1, 2, 5, 0, 9, -1, 65535, 3, 65536, 1, 7, 4097, 8, 4096),
		list(3, 4, 3, 4, 5, 1), slices.Repeat(list(7, 4096), 17), slices.Repeat(list(7, 4095), 17),
		pairs(ends(), []int{-1, 0, 1, 2, 4096, 4097}), pairs([]int{-1, 0, 1, 65535, 65536}, ends()),
	}
	for _, l := range samples() {
		out = append(out, toldOf(l))
	}
	r := rand.New(rand.NewSource(51))
	for i := range 40 {
		out = append(out, mixed(r, i, 10+i*i*3))
	}
	return out
}
