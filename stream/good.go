package stream

import (
	"iter"
	"slices"

	"revetment/api"
)

const (
	maxId = 1000000 // the greatest Id; the least one is 1
	none  = -1      // the Base of a stream that begins from no snapshot
)

// records visits the records of l, each with the least block at which it may begin.
// That is the end of the record before, or the block behind it if both are alike: two that touch would be one.
func records(l []api.Record) iter.Seq2[int, api.Record] {
	return func(yield func(int, api.Record) bool) {
		least := 0
		for i, r := range l {
			if i > 0 && r.Zeros == l[i-1].Zeros {
				least++
			}
			if !yield(least, r) {
				return
			}
			least = r.From + r.Count
		}
	}
}

// goodHead reports whether Blocks, Id and Base are in their ranges.
func goodHead(s api.Stream) bool {
	return within(s.Blocks, 1, api.MaxBlocks) &&
		within(s.Id, 1, maxId) &&
		(s.Base == none || within(s.Base, 1, s.Id-1))
}

// goodPlace reports whether r has blocks, all of them from least to blocks - 1.
func goodPlace(r api.Record, least, blocks int) bool {
	// The Count is held against what is left, since its sum with From might not fit the type.
	return within(r.From, least, blocks-1) && within(r.Count, 1, blocks-r.From)
}

// goodData reports whether r, whose place is good, has the bytes that it should have in a stream from base.
func goodData(r api.Record, base int) bool {
	if r.Zeros {
		return base != none && len(r.Data) == 0
	}
	return len(r.Data) == r.Count*api.Size && !anyZero(r.Data)
}

// anyZero reports whether one of the blocks of b consists of zeros only.
func anyZero(b []byte) bool {
	for block := range slices.Chunk(b, api.Size) {
		if Zero(block) {
			return true
		}
	}
	return false
}

func within(n, least, most int) bool {
	return n >= least && n <= most
}
