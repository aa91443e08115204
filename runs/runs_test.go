package runs

import (
	"math"
	"math/rand"
	"slices"
	"testing"

	"revetment/api"
)

// P15.1: the chapter's example.
func TestExample(t *testing.T) {
	if l := Of([]int{3, 4, 5, 9}); !slices.Equal(l, list(3, 3, 9, 1)) {
		t.Error(l)
	}
}

// P15.1: Of by hand: no numbers, one, all in one run, none of them, numbers below 0, at both ends of the type and about 2^62.
func TestOfByHand(t *testing.T) {
	const far = 1 << 62
	for _, x := range []struct {
		l    []int
		want []api.Run
	}{
		{nil, nil},
		{[]int{}, nil},
		{seq(3, 9)[:0], nil},
		{[]int{7}, list(7, 1)},
		{[]int{0}, list(0, 1)},
		{[]int{-1}, list(-1, 1)},
		{[]int{math.MinInt}, list(math.MinInt, 1)},
		{[]int{math.MaxInt}, list(math.MaxInt, 1)},
		{[]int{0, 1}, list(0, 2)},
		{[]int{1, 2, 3, 4, 5}, list(1, 5)},
		{seq(10, 5010), list(10, 5000)},
		{[]int{9, 8, 7}, list(9, 1, 8, 1, 7, 1)},
		{[]int{4, 4, 4}, list(4, 1, 4, 1, 4, 1)},
		{[]int{4, 4, 5}, list(4, 1, 4, 2)},
		{[]int{4, 5, 5}, list(4, 2, 5, 1)},
		{[]int{0, 2, 4, 6}, list(0, 1, 2, 1, 4, 1, 6, 1)},
		{[]int{5, 4, 5, 5, 6}, list(5, 1, 4, 2, 5, 2)},
		{[]int{1, 2, 1, 2}, list(1, 2, 1, 2)},
		{[]int{1, 2, 4, 3}, list(1, 2, 4, 1, 3, 1)},
		{[]int{1, 2, 4, 5, 3}, list(1, 2, 4, 2, 3, 1)},
		{[]int{-5, -4, -3}, list(-5, 3)},
		{[]int{-3, -4, -5}, list(-3, 1, -4, 1, -5, 1)},
		{[]int{-2, -1, 0, 1}, list(-2, 4)},
		{[]int{-1, 1}, list(-1, 1, 1, 1)},
		{[]int{math.MaxInt, math.MinInt}, list(math.MaxInt, 1, math.MinInt, 1)},
		{[]int{math.MinInt, math.MaxInt}, list(math.MinInt, 1, math.MaxInt, 1)},
		{[]int{math.MaxInt - 1, math.MaxInt, math.MinInt, math.MinInt + 1}, list(math.MaxInt-1, 1, math.MaxInt, 1, math.MinInt, 2)},
		{[]int{math.MinInt, math.MinInt + 1, math.MinInt + 2}, list(math.MinInt, 3)},
		{[]int{far - 3, far - 2}, list(far-3, 2)},
		{[]int{far - 2, far - 1}, list(far-2, 2)},
		{[]int{far - 1, far}, list(far-1, 2)},
		{[]int{far, far + 1}, list(far, 1, far+1, 1)},
		{[]int{far + 1, far + 2}, list(far+1, 1, far+2, 1)},
		{seq(far-3, far+4), list(far-3, 4, far+1, 1, far+2, 1, far+3, 1)},
		{[]int{far, 3, 4}, list(far, 1, 3, 2)},
		{[]int{math.MaxInt, 3, 4}, list(math.MaxInt, 1, 3, 2)},
		{[]int{-far, -far + 1}, list(-far, 2)},
		{[]int{-far - 1, -far}, list(-far-1, 2)},
		{[]int{math.MaxInt32, math.MaxInt32 + 1, math.MaxInt32 + 2}, list(math.MaxInt32, 3)},
		{[]int{1<<32 - 1, 0}, list(1<<32-1, 1, 0, 1)},
		{[]int{1<<32 - 1, 1 << 32}, list(1<<32-1, 2)},
		{[]int{65535, 65536}, list(65535, 2)},
	} {
		if l := Of(x.l); !slices.Equal(l, x.want) {
			t.Errorf("Of(%v) = %v, not %v", x.l, l, x.want)
		}
	}
}

// P15.1: Of every list of at most five small numbers, of every list of at most three at the ends, and of all samples, held against the document's words.
func TestOf(t *testing.T) {
	hold := func(l []int) {
		if got := Of(l); !slices.Equal(got, toldOf(l)) {
			t.Fatalf("Of(%v) = %v", l, got)
		}
	}
	each(5, seq(-2, 3), hold)
	each(3, append(ends(), 0, 1), hold)
	for _, l := range samples() {
		hold(l)
	}
}

// P15.1: Of returns the longest runs: numbers that go on are one run, however many they are, until another number parts them.
func TestOfIsLongest(t *testing.T) {
	l := seq(100, 1100)
	for i := 1; i < len(l); i++ {
		if got := Of(l[:i]); !slices.Equal(got, list(100, i)) {
			t.Fatalf("of %d numbers: %v", i, got)
		}
		parted := slices.Concat(l[:i], []int{5000}, l[i:])
		if got := Of(parted); !slices.Equal(got, list(100, i, 5000, 1, 100+i, 1000-i)) {
			t.Fatalf("parted at %d: %v", i, got)
		}
	}
}

// P15.1: Blocks by hand: no runs, the edges of both ranges, runs that are passed over ahead of, between and behind others, runs that overlap, and the same one twice.
func TestBlocksByHand(t *testing.T) {
	for _, x := range []struct {
		l    []api.Run
		want []int
	}{
		{nil, nil},
		{[]api.Run{}, nil},
		{list(3, 4, 5, 6)[:0], nil},
		{list(3, 3, 9, 1), []int{3, 4, 5, 9}},
		{list(0, 1), []int{0}},
		{list(-1, 1), nil},
		{list(-1, 2), nil},
		{list(-1, 4096), nil},
		{list(-4000, 4096), nil},
		{list(65534, 1), []int{65534}},
		{list(65535, 1), []int{65535}},
		{list(65535, 3), []int{65535, 65536, 65537}},
		{list(65535, 4096), seq(65535, 69631)},
		{list(65535, 4097), nil},
		{list(65536, 1), nil},
		{list(65537, 1), nil},
		{list(math.MinInt, 1), nil},
		{list(math.MaxInt, 1), nil},
		{list(math.MaxInt, 2), nil},
		{list(math.MinInt, math.MinInt), nil},
		{list(math.MaxInt, math.MaxInt), nil},
		{list(1<<32, 1), nil},
		{list(1<<16, 1), nil},
		{list(5, 0), nil},
		{list(5, -1), nil},
		{list(5, -4096), nil},
		{list(5, math.MinInt), nil},
		{list(5, 1), []int{5}},
		{list(5, 2), []int{5, 6}},
		{list(5, 4095), seq(5, 4100)},
		{list(5, 4096), seq(5, 4101)},
		{list(5, 4097), nil},
		{list(0, 4096), seq(0, 4096)},
		{list(0, 4097), nil},
		{list(0, 65536), nil},
		{list(5, 1<<32+1), nil},
		{list(5, math.MaxInt), nil},
		{list(0, math.MaxInt), nil},
		{list(-1, 5, 8, 2), []int{8, 9}},
		{list(2, 4097, 8, 2), []int{8, 9}},
		{list(8, 2, 5, 0, 3, 2), []int{8, 9, 3, 4}},
		{list(8, 2, 65536, 1, 3, 2), []int{8, 9, 3, 4}},
		{list(8, 2, math.MaxInt, 1, 3, -2, 3, 2), []int{8, 9, 3, 4}},
		{list(8, 2, 5, 0), []int{8, 9}},
		{list(8, 2, -1, 1), []int{8, 9}},
		{list(5, 0, 1, 2, 9, -1, -1, 3), []int{1, 2}},
		{list(3, 3, 4, 3), []int{3, 4, 5, 4, 5, 6}},
		{list(3, 5, 4, 1), []int{3, 4, 5, 6, 7, 4}},
		{list(3, 2, 3, 2), []int{3, 4, 3, 4}},
		{list(3, 1, 3, 1), []int{3, 3}},
		{list(3, 1, 4, 1), []int{3, 4}},
		{list(9, 2, 0, 2), []int{9, 10, 0, 1}},
	} {
		if l := Blocks(x.l); !slices.Equal(l, x.want) {
			t.Errorf("Blocks(%v) = %v, not %v", x.l, l, x.want)
		}
	}
}

// P15.1: Blocks of every two runs at the edges of both ranges, of every four small ones and of all samples, held against the document's words.
func TestBlocks(t *testing.T) {
	hold := func(l []api.Run) {
		if got := Blocks(l); !slices.Equal(got, toldBlocks(l)) {
			t.Fatalf("Blocks(%v): %d numbers", l, len(got))
		}
	}
	edges := pairs([]int{math.MinInt, -1, 0, 1, 65535, 65536, math.MaxInt}, []int{math.MinInt, -1, 0, 1, 2, 4095, 4096, 4097, math.MaxInt})
	each(2, edges, hold)
	each(4, pairs([]int{-1, 0, 1, 2}, []int{0, 1, 2}), hold)
	for _, l := range runSamples() {
		hold(l)
	}
}

// P15.1: one run of each From and of each Count, about both ranges.
func TestBlocksOfOne(t *testing.T) {
	for from := -10; from < 65600; from++ {
		if got := Blocks(list(from, 1)); (len(got) == 1) != (from >= 0 && from <= 65535) || len(got) > 1 || len(got) == 1 && got[0] != from {
			t.Fatalf("From %d: %v", from, got)
		}
	}
	for count := -10; count < 4200; count++ {
		want := seq(77, 77+count)
		if count > 4096 {
			want = nil
		}
		if got := Blocks(list(77, count)); !slices.Equal(got, want) {
			t.Fatalf("Count %d: %d numbers", count, len(got))
		}
	}
}

// P15.1: lists of just 65536 numbers, one fewer and one more: the bound falls on the end of a run, within one, behind and ahead of the first number of one.
func TestBlocksBound(t *testing.T) {
	full := slices.Repeat(list(7, 4096), 15) // 4096 numbers fewer than the bound
	for i, x := range []struct {
		l     []api.Run
		count int
		last  int
	}{
		{append(slices.Clone(full), list(100, 4095)...), 65535, 4194},
		{append(slices.Clone(full), list(100, 4096)...), 65536, 4195},
		{append(slices.Clone(full), list(100, 4096, 9, 1)...), 65536, 4195},
		{append(slices.Clone(full), list(100, 4096, 9, 4096)...), 65536, 4195},
		{append(slices.Clone(full), list(100, 4095, 9, 1)...), 65536, 9},
		{append(slices.Clone(full), list(100, 4095, 9, 2)...), 65536, 9},
		{append(slices.Clone(full), list(100, 4095, 9, 4096)...), 65536, 9},
		{append(slices.Clone(full), list(100, 4095, 9, 0, 20, 4097, -1, 1, 65536, 1, 30, 2)...), 65536, 30},
		{append(slices.Clone(full), list(100, 4094, 9, 1)...), 65535, 9},
		{append(slices.Clone(full), list(100, 4094, 9, 2)...), 65536, 10},
		{append(slices.Clone(full), list(100, 4094, 9, 3)...), 65536, 10},
		{append(slices.Clone(full), list(9, 4097, 100, 4096, 9, 4097)...), 65536, 4195},
		{append(slices.Clone(full), list(200, 100, 300, 4000, 400, 100)...), 65536, 300 + 3995},
		{slices.Repeat(list(5, 1), 65535), 65535, 5},
		{slices.Repeat(list(5, 1), 65536), 65536, 5},
		{append(slices.Repeat(list(5, 1), 65536), list(6, 1)...), 65536, 5},
		{append(slices.Repeat(list(5, 1), 65535), list(6, 1)...), 65536, 6},
		{append(slices.Repeat(list(5, 1), 65535), list(6, 2)...), 65536, 6},
		{append(slices.Repeat(list(-5, 1), 70000), list(6, 2)...), 2, 7},
		{slices.Repeat(list(65535, 4096), 100), 65536, 65535 + 4095},
		{slices.Repeat(list(0, 4095), 17), 65536, 65535 - 16*4095},
		{slices.Repeat(list(0, 3), 100000), 65536, 0},
	} {
		got := Blocks(x.l)
		if len(got) != x.count || got[len(got)-1] != x.last || !slices.Equal(got, toldBlocks(x.l)) {
			t.Errorf("%d: %d numbers", i, len(got))
		}
	}
}

// P15.2: the numbers of the runs of a list are the list.
func TestThereAndBack(t *testing.T) {
	hold := func(l []int) {
		if got := Blocks(Of(l)); !slices.Equal(got, l) {
			t.Fatalf("%d numbers in %d runs come back as %d", len(l), len(Of(l)), len(got))
		}
	}
	each(6, seq(0, 4), hold)
	each(4, []int{0, 1, 65533, 65534, 65535}, hold)
	fall := seq(0, 65536)
	slices.Reverse(fall)
	hold(fall)
	var pieces, even, odd []int
	for from := 65536 - 4096; from >= 0; from -= 4096 {
		pieces = append(pieces, seq(from, from+4096)...)
	}
	for n := 0; n < 65536; n += 2 {
		even, odd = append(even, n), append(odd, n+1)
	}
	hold(pieces)
	hold(slices.Concat(even, odd))
	hold(slices.Repeat([]int{65535}, 65536))
	r := rand.New(rand.NewSource(2))
	hold(r.Perm(4096))
	for i := range 300 {
		hold(numbers(r, 1+i*200, 1+i*219, 1+(i*97)%4096))
	}
}

// P15.2: for each length of a run, alone and between others.
func TestThereAndBackOfEachLength(t *testing.T) {
	for n := range 4097 {
		for _, l := range [][]int{seq(0, n), seq(65536-n, 65536), slices.Concat([]int{9}, seq(20, 20+n), []int{9})} {
			if got := Blocks(Of(l)); !slices.Equal(got, l) {
				t.Fatalf("%d numbers in a run: %d come back", n, len(got))
			}
		}
	}
}
