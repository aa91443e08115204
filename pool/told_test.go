package pool

import (
	"math"
	"math/rand"
	"slices"

	"revetment/api"
)

// far are numbers at the ends of the type, and where fewer bits end.
func far() []int {
	return []int{math.MinInt, math.MinInt + 1, -1 << 32, -1 << 31, -256, 1 << 31, 1<<32 - 1, 1 << 32, 1<<32 + 1, math.MaxInt - 1, math.MaxInt}
}

// pairs makes a table of these Ats; the Blocks are other numbers, which do not matter.
func pairs(ats ...int) []api.Pair {
	var out []api.Pair
	for i, at := range ats {
		out = append(out, api.Pair{Block: 1000 + i, At: at})
	}
	return out
}

// made makes a state of a plan's Ats, and of a table's Ats for each snapshot.
func made(plan []int, tables ...[]int) api.State {
	s := api.State{Plan: api.Plan{Kind: api.PlanImport, Id: 7, Pairs: pairs(plan...)}}
	for i, ats := range tables {
		s.Snaps = append(s.Snaps, api.Snap{Id: i + 1, Changed: []byte{255}, Table: pairs(ats...)})
	}
	return s
}

// seq returns the numbers from a to b - 1.
func seq(a, b int) []int {
	var out []int
	for i := a; i < b; i++ {
		out = append(out, i)
	}
	return out
}

// none is no state at all, in several forms.
func none() []api.State {
	return []api.State{
		{},
		{Snaps: []api.Snap{}, Plan: api.Plan{Pairs: []api.Pair{}}},
		{Snaps: []api.Snap{{Id: 4, Changed: []byte{1}}, {Id: 5, Table: []api.Pair{}}, {}}},
		{Dirty: []int{0, 1, 2, -1}, Next: 3, Plan: api.Plan{Kind: api.PlanRoll, Id: 1}},
		made([]int{api.Zeros, api.Zeros}),
		made([]int{api.Zeros}, nil, nil),
	}
}

// samples are states of all sorts, most of them not valid.
func samples() []api.State {
	out := append(none(), small()...)
	out = append(out,
		made(far(), far()),
		made(nil, far(), append(seq(-5, 5), far()...)),
		made([]int{255, 254, 256, 255}, []int{255}),
		made([]int{255, 254, 256, 255}, []int{1}),
		made(seq(0, 200), seq(100, 300), seq(250, 260)),
		made(seq(-100, 100)),
		api.State{Snaps: make([]api.Snap, 40), Plan: api.Plan{Kind: -5, Pairs: pairs(3, 1)}},
		api.State{Dirty: seq(0, 9), Next: 2, Plan: api.Plan{Kind: api.PlanNone, Pairs: pairs(2)}},
	)
	r := rand.New(rand.NewSource(12))
	for i := range 400 {
		out = append(out, random(r, 1+i%300))
	}
	return out
}

// small are states of few blocks.
func small() []api.State {
	return []api.State{
		made(nil, []int{0, 2}),
		made([]int{0, 2}),
		made([]int{2}, []int{0}),
		made([]int{2, 0}, []int{0, 2}),
		made(nil, []int{3}, []int{3}, []int{3}),
		made(nil, []int{1, 1}),
		made([]int{1, 1}),
		made(nil, []int{0}),
		made(nil, []int{9}),
		made(nil, []int{10}),
		made(nil, []int{-1}),
		made([]int{255}, []int{255}),
		made(nil, seq(0, 10)),
		made(seq(0, 5), seq(5, 10)),
		made([]int{9, 8, 7}, []int{6, 5}, nil, []int{4}),
	}
}

// random makes a state whose Ats are near the area's two ends, near Zeros, or between.
func random(r *rand.Rand, area int) api.State {
	ats := func() []int {
		var out []int
		for range r.Intn(1 + area/2) {
			out = append(out, []int{r.Intn(area), r.Intn(area), r.Intn(5) - 3, area + r.Intn(4) - 2, 253 + r.Intn(5), far()[r.Intn(len(far()))]}[r.Intn(6)])
		}
		return out
	}
	var tables [][]int
	for range r.Intn(5) {
		tables = append(tables, ats())
	}
	s := made(ats(), tables...)
	s.Plan.Kind = r.Intn(5) - 1
	return s
}

// areas are sizes of the area: none, small ones, around Zeros, around the greatest Take, far ones.
func areas() []int {
	return append([]int{-10, -1, 0, 1, 2, 3, 4, 9, 10, 11, 200, 254, 255, 256, 257, 300, 4095, 4096, 4097, 5000, 1 << 40}, far()...)
}

// uses reports whether the document's words name this number, looking at each pair.
func uses(s api.State, at int) bool {
	for _, snap := range s.Snaps {
		if slices.ContainsFunc(snap.Table, func(p api.Pair) bool { return p.At == at }) {
			return true
		}
	}
	return at != 255 && slices.ContainsFunc(s.Plan.Pairs, func(p api.Pair) bool { return p.At == at })
}

// toldUsed puts each number that is named where it belongs, if it is not there yet.
func toldUsed(s api.State) []int {
	all := slices.Clone(s.Plan.Pairs)
	for _, snap := range s.Snaps {
		all = append(all, snap.Table...)
	}
	var out []int
	for _, p := range all {
		i := 0
		for i < len(out) && out[i] < p.At {
			i++
		}
		if uses(s, p.At) && (i == len(out) || out[i] != p.At) {
			out = slices.Insert(out, i, p.At)
		}
	}
	return out
}

// toldFree takes one from the area's size for each of its blocks that is used.
func toldFree(used []int, area int) int {
	if area < 1 {
		return 0
	}
	n := area
	for _, at := range used {
		if at >= 0 && at < area {
			n--
		}
	}
	return n
}

// toldTake asks each number from 0 on.
func toldTake(s api.State, area, n int) ([]int, api.Errno) {
	if n < 0 || n > 4096 {
		return nil, api.ErrArg
	}
	var out []int
	for at := 0; at < area && len(out) < n; at++ {
		if !uses(s, at) {
			out = append(out, at)
		}
	}
	if len(out) < n {
		return nil, api.ErrSpace
	}
	return out, api.OK
}
