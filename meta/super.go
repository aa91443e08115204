package meta

import (
	"slices"

	"revetment/api"
	"revetment/geom"
	"revetment/le"
	"revetment/page"
	"revetment/rig"
)

const (
	superMark  = 0x53
	superCount = 2 // in the first sectors of the fast disk
	magic      = "RVT1"
)

// How many bytes of a superblock's body the numbers take.
const (
	blocksSize = 2
	setsSize   = 1
	waysSize   = 1
	areaSize   = 2
	ringSize   = 2
	atSize     = 2
	seqSize    = 4
)

// super is a superblock.
type super struct {
	gen  uint32
	geom api.Geom
	from spot // where the transactions begin that have not been written to the home pages yet
}

// spot is where in the ring a transaction begins, and its sequence.
type spot struct {
	at  int
	seq uint32
}

// sector returns the superblock as a marked sector.
func (s super) sector() page.Sector {
	p := page.Sector{Mark: superMark, Seq: s.gen}
	copy(p.Body[:], slices.Concat(
		[]byte(magic),
		le.Put(uint64(s.geom.Blocks), blocksSize),
		le.Put(uint64(s.geom.Sets), setsSize),
		le.Put(uint64(s.geom.Ways), waysSize),
		le.Put(uint64(s.geom.Area), areaSize),
		le.Put(uint64(s.geom.Ring), ringSize),
		le.Put(uint64(s.from.at), atSize),
		le.Put(uint64(s.from.seq), seqSize),
	))
	return p
}

// superOf returns the superblock whose bytes are b; ok is false if there is none.
func superOf(b api.Block) (s super, ok bool) {
	p, e := page.Decode(b)
	if e != api.OK {
		return super{}, false
	}
	s = fields(p)
	// Laying it out again checks all else at once: the mark, the index, how the body begins, and the zeros behind the numbers.
	return s, s.sector() == p
}

// fields returns what stands in p where a superblock has its numbers. A body is longer than they are, so that no read fails.
func fields(p page.Sector) super {
	r := le.NewReader(p.Body[:])
	r.Take(len(magic))
	num := func(size int) int {
		n, _ := r.Num(size)
		return int(n)
	}
	s := super{gen: p.Seq}
	s.geom.Blocks = num(blocksSize)
	s.geom.Sets = num(setsSize)
	s.geom.Ways = num(waysSize)
	s.geom.Area = num(areaSize)
	s.geom.Ring = num(ringSize)
	s.from.at = num(atSize)
	s.from.seq = uint32(num(seqSize))
	return s
}

// correct reports whether a superblock that is on r can be one of its own.
func (s super) correct(r *rig.Rig) bool {
	return fits(r, s.geom) && s.from.at < s.geom.Ring
}

// fits reports whether g is valid and r has room for it. A nil rig has no sectors, thus no room.
func fits(r *rig.Rig, g api.Geom) bool {
	return geom.Good(g) && geom.Fast(g) <= r.Len(rig.Fast) && geom.Slow(g) <= r.Len(rig.Slow)
}

// newer reads both superblocks and returns the newer one and its sector.
func newer(r *rig.Rig) (super, int, api.Errno) {
	var found super
	where := -1
	for i := range superCount {
		b, e := r.Read(rig.Fast, i)
		if e != api.OK {
			return super{}, 0, e
		}
		s, ok := superOf(b)
		if ok && s.correct(r) && (where < 0 || s.gen > found.gen) {
			found, where = s, i
		}
	}
	if where < 0 {
		return super{}, 0, api.ErrForm
	}
	return found, where, api.OK
}
