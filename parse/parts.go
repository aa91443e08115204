package parse

import (
	"slices"

	"revetment/api"
	"revetment/fnv"
	"revetment/le"
)

// The bytes that tell what follows.
const (
	magic     = "RVS1" // the head
	dataMark  = 0x01   // a record with its blocks' bytes
	zerosMark = 0x02   // a record whose blocks are zeros
	endMark   = 0x45   // the checksum of all
)

// How many bytes numbers and parts take.
const (
	blocksSize = 2 // Blocks, From and Count
	idSize     = 4 // Id, and Base plus 1
	countSize  = 2 // the number of Records
	checkSize  = 8
	headSize   = len(magic) + blocksSize + 2*idSize + countSize + checkSize
	firstSize  = 1 + 2*blocksSize // the mark of a record, From and Count
	endSize    = 1 + checkSize
)

const maxId = 1000000 // the greatest Id; the least one is 1

// head reads the stream's head, which also tells how many records there are.
func head(b []byte) (api.Stream, uint64, api.Errno) {
	if len(b) < len(magic) {
		return api.Stream{}, 0, api.ErrShort
	}
	if string(b[:len(magic)]) != magic {
		return api.Stream{}, 0, api.ErrMagic
	}
	if len(b) < headSize {
		return api.Stream{}, 0, api.ErrShort
	}
	if !checked(b[:headSize]) {
		return api.Stream{}, 0, api.ErrCheck
	}
	r := le.NewReader(b[len(magic):headSize])
	blocks, _ := r.Num(blocksSize)
	next, _ := r.Num(idSize) // Base plus 1
	id, _ := r.Num(idSize)
	count, _ := r.Num(countSize)
	if blocks < 1 || blocks > api.MaxBlocks {
		return api.Stream{}, 0, api.ErrSize
	}
	if !goodIds(next, id) {
		return api.Stream{}, 0, api.ErrRange
	}
	return api.Stream{Blocks: int(blocks), Base: int(next) - 1, Id: int(id)}, count, api.OK
}

// goodIds reports whether id, and Base plus 1, are in their ranges.
func goodIds(next, id uint64) bool {
	return id >= 1 && id <= maxId && (next == 0 || next >= 2 && next <= id)
}

// record reads the record with which b begins, in a stream of so many blocks.
func record(b []byte, blocks int) (api.Record, api.Errno) {
	if len(b) < firstSize {
		return api.Record{}, api.ErrShort
	}
	if b[0] != dataMark && b[0] != zerosMark {
		return api.Record{}, api.ErrForm
	}
	first := le.NewReader(b[1:firstSize])
	from, _ := first.Num(blocksSize)
	count, _ := first.Num(blocksSize)
	if count < 1 || from+count > uint64(blocks) {
		return api.Record{}, api.ErrRange
	}
	r := api.Record{From: int(from), Count: int(count), Zeros: b[0] == zerosMark}
	size := plainSize(r)
	if len(b) < size+checkSize {
		return api.Record{}, api.ErrShort
	}
	if !checked(b[:size+checkSize]) {
		return api.Record{}, api.ErrCheck
	}
	if !r.Zeros {
		r.Data = slices.Clone(b[firstSize:size])
	}
	return r, api.OK
}

// plainSize returns how many bytes r takes, without its checksum.
func plainSize(r api.Record) int {
	if r.Zeros {
		return firstSize
	}
	return firstSize + r.Count*api.Size
}

// end tells what is wrong with what follows the records, which end at that place of b.
func end(b []byte, at int) api.Errno {
	rest := b[at:]
	switch {
	case len(rest) < endSize:
		return api.ErrShort
	case rest[0] != endMark:
		return api.ErrForm
	case le.Get(rest[1:endSize]) != fnv.Check(b[:at]):
		return api.ErrCheck
	case len(rest) > endSize:
		return api.ErrLong
	}
	return api.OK
}

// checked reports whether b ends with the checksum of what is ahead of it.
func checked(b []byte) bool {
	size := len(b) - checkSize
	return le.Get(b[size:]) == fnv.Check(b[:size])
}
