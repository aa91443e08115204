package state

import (
	"iter"
	"slices"

	"revetment/api"
	"revetment/bits"
	"revetment/le"
)

// How many bytes numbers take; blocks and places take one (see code).
const (
	idSize    = 4 // Next too
	countSize = 1
	kindSize  = 1
)

// code returns the byte that stands for a block or a place. No valid state has a number that gets the byte of Zeros, save Zeros itself.
func code(n int) byte {
	if n == api.Zeros {
		return api.Zeros
	}
	return byte(n + 1)
}

// meant returns the block or the place for which a byte stands.
func meant(c byte) int {
	if c == api.Zeros {
		return api.Zeros
	}
	return int(c) - 1
}

// codes returns a byte for each block's place in l.
func codes(l []api.Pair, blocks int) []byte {
	b := make([]byte, 0, blocks)
	for at := range places(l, blocks) {
		b = append(b, code(at))
	}
	return b
}

// places visits the places in l of the blocks 0 to blocks - 1, in order; none for a block that is not in l. The Blocks of l are ascending.
func places(l []api.Pair, blocks int) iter.Seq[int] {
	return func(yield func(int) bool) {
		rest := l
		for block := range blocks {
			at := none
			if len(rest) > 0 && rest[0].Block == block {
				at, rest = rest[0].At, rest[1:]
			}
			if !yield(at) {
				return
			}
		}
	}
}

// placed visits the blocks that have places, ascending, each with its place; a byte of b stands for each block's place.
func placed(b []byte) iter.Seq[api.Pair] {
	return func(yield func(api.Pair) bool) {
		for block, c := range b {
			if at := meant(c); at != none && !yield(api.Pair{Block: block, At: at}) {
				return
			}
		}
	}
}

// read returns the state for which the bytes of b stand, valid or not. There are as many as an encoding has.
func read(g api.Geom, b []byte) api.State {
	r := le.NewReader(b)
	var s api.State
	s.Next = number(r, idSize)
	count := number(r, countSize)
	s.Plan.Kind = number(r, kindSize)
	s.Plan.Id = number(r, idSize)
	for _, c := range taken(r, slotCount(g)) {
		s.Dirty = append(s.Dirty, meant(c))
	}
	for i := range api.MaxSnaps {
		if snap := readSnap(r, g); i < count {
			s.Snaps = append(s.Snaps, snap)
		}
	}
	s.Plan.Pairs = slices.Collect(placed(taken(r, g.Blocks)))
	return s
}

// readSnap returns the next snapshot, which may be an empty one.
func readSnap(r *le.Reader, g api.Geom) api.Snap {
	return api.Snap{
		Id:      number(r, idSize),
		Changed: taken(r, len(bits.New(g.Blocks))),
		Table:   slices.Collect(placed(taken(r, g.Blocks))),
	}
}

// number returns the next number; the caller knows that there is one.
func number(r *le.Reader, size int) int {
	n, _ := r.Num(size)
	return int(n)
}

// taken returns the next bytes; the caller knows that there are so many.
func taken(r *le.Reader, size int) []byte {
	b, _ := r.Take(size)
	return b
}
