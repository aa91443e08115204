package stream

import (
	"bytes"
	"encoding/binary"
	"fmt"
	"hash/fnv"
	"math"
	"math/big"
	"math/rand"
	"slices"

	"revetment/api"
)

// far are numbers at both ends of the type, where fewer bits end, and where one becomes another when its high bits are lost.
func far() []int {
	return []int{
		math.MinInt, math.MinInt + 1, math.MinInt + 2, -1 << 62, -1 << 32, -1<<32 + 1, -1 << 31, -65536, -256,
		256, 257, 65536, 65537, 1 << 20, 1 << 31, 1<<32 - 1, 1 << 32, 1<<32 + 1, 1<<32 + 4, 1<<58 + 1, 1 << 62, math.MaxInt - 1, math.MaxInt,
	}
}

// data returns a block of each of these bytes.
func data(l ...byte) []byte {
	var b []byte
	for _, x := range l {
		b = append(b, bytes.Repeat([]byte{x}, 64)...)
	}
	return b
}

// single returns so many blocks of zeros but for one byte.
func single(blocks, at int) []byte {
	b := make([]byte, blocks*64)
	b[at] = 0x80
	return b
}

func zeros(from, count int) api.Record {
	return api.Record{From: from, Count: count, Zeros: true}
}

func filled(from int, l ...byte) api.Record {
	return api.Record{From: from, Count: len(l), Data: data(l...)}
}

// full is a valid stream with records of both kinds, of one block and of many, some with blocks between them.
func full() api.Stream {
	return api.Stream{Blocks: 20, Base: 3, Id: 300, Records: []api.Record{
		filled(0, 1, 2), zeros(2, 3), filled(5, 9), filled(7, 8, 7, 6), zeros(11, 1), zeros(13, 2), filled(15, 255), zeros(18, 2),
	}}
}

// whole is a valid stream of all blocks of a snapshot.
func whole() api.Stream {
	return api.Stream{Blocks: 9, Base: -1, Id: 70000, Records: []api.Record{filled(1, 1), filled(3, 2, 3, 4), filled(8, 5)}}
}

// of returns a stream of ten blocks with these records.
func of(l ...api.Record) api.Stream {
	return api.Stream{Blocks: 10, Base: 1, Id: 2, Records: l}
}

// brief tells s without most of its bytes.
func brief(s api.Stream) string {
	out := fmt.Sprintf("%d blocks, %d to %d,", s.Blocks, s.Base, s.Id)
	for i, r := range s.Records {
		if i == 9 {
			return out + fmt.Sprintf(" .. %d records", len(s.Records))
		}
		out += fmt.Sprintf(" %d+%d", r.From, r.Count)
		if r.Zeros {
			out += "z"
		}
		out += fmt.Sprintf(":%d(%x)", len(r.Data), r.Data[:min(4, len(r.Data))])
	}
	return out
}

// anew returns s in memory of its own.
func anew(s api.Stream) api.Stream {
	s.Records = slices.Concat(s.Records)
	for i, r := range s.Records {
		s.Records[i].Data = slices.Concat(r.Data)
	}
	return s
}

// edited returns s in new memory, changed.
func edited(s api.Stream, edit func(s *api.Stream)) api.Stream {
	s = anew(s)
	edit(&s)
	return s
}

// equal reports whether two streams are equal in everything.
func equal(a, b api.Stream) bool {
	if a.Blocks != b.Blocks || a.Base != b.Base || a.Id != b.Id || len(a.Records) != len(b.Records) {
		return false
	}
	for i, r := range a.Records {
		o := b.Records[i]
		if r.From != o.From || r.Count != o.Count || r.Zeros != o.Zeros || string(r.Data) != string(o.Data) {
			return false
		}
	}
	return true
}

// sum is a + b, however large it is.
func sum(a, b int) *big.Int {
	return new(big.Int).Add(big.NewInt(int64(a)), big.NewInt(int64(b)))
}

// toldGood follows the document's words, one after the other, each for all records.
func toldGood(s api.Stream) bool {
	if s.Blocks < 1 || s.Blocks > 64 || s.Id < 1 || s.Id > 1000000 {
		return false
	}
	if s.Base != -1 && (s.Base < 1 || s.Base >= s.Id) {
		return false
	}
	for _, r := range s.Records {
		if r.Count < 1 || r.From < 0 || sum(r.From, r.Count).Cmp(big.NewInt(int64(s.Blocks))) > 0 {
			return false
		}
	}
	for i := 1; i < len(s.Records); i++ {
		r, before := s.Records[i], s.Records[i-1]
		end := before.From + before.Count
		if r.From < end || r.From == end && r.Zeros == before.Zeros {
			return false
		}
	}
	for _, r := range s.Records {
		if r.Zeros && (s.Base == -1 || len(r.Data) > 0) || !r.Zeros && !toldFilled(r) {
			return false
		}
	}
	return true
}

// toldFilled reports whether r has the bytes of its blocks, none of which is of zeros only.
func toldFilled(r api.Record) bool {
	if len(r.Data) != 64*r.Count {
		return false
	}
	for i := range r.Count {
		if string(r.Data[64*i:64*i+64]) == string(make([]byte, 64)) {
			return false
		}
	}
	return true
}

// toldCheck is the checksum as the library has it.
func toldCheck(b []byte) []byte {
	h := fnv.New64a()
	h.Write(b)
	return binary.LittleEndian.AppendUint64(nil, h.Sum64())
}

// toldBytes writes the encoding of a valid stream, the numbers byte by byte.
func toldBytes(s api.Stream) []byte {
	b := []byte{0x52, 0x56, 0x53, 0x31, byte(s.Blocks), byte(s.Blocks / 256)}
	b = binary.LittleEndian.AppendUint32(b, uint32(s.Base+1))
	b = binary.LittleEndian.AppendUint32(b, uint32(s.Id))
	b = append(b, byte(len(s.Records)), byte(len(s.Records)/256))
	b = append(b, toldCheck(b)...)
	for _, r := range s.Records {
		own := []byte{1, byte(r.From), byte(r.From / 256), byte(r.Count), byte(r.Count / 256)}
		if r.Zeros {
			own[0] = 2
		}
		own = append(own, r.Data...)
		b = append(append(b, own...), toldCheck(own)...)
	}
	check := toldCheck(b)
	return append(append(b, 0x45), check...)
}

// built makes the stream in which block i is absent if l[i] is 'n', zeros if it is 'z', and otherwise filled with the byte l[i]. Each valid stream of such blocks is built from one l.
func built(l []byte, base, id int) api.Stream {
	s := api.Stream{Blocks: len(l), Base: base, Id: id}
	for i, x := range l {
		if x == 'n' {
			continue
		}
		last := len(s.Records) - 1
		if i == 0 || l[i-1] == 'n' || (l[i-1] == 'z') != (x == 'z') {
			s.Records = append(s.Records, api.Record{From: i, Zeros: x == 'z'})
			last++
		}
		s.Records[last].Count++
		if x != 'z' {
			s.Records[last].Data = append(s.Records[last].Data, data(x)...)
		}
	}
	return s
}

// drawn makes a valid stream by luck; some of its bytes are 0.
func drawn(r *rand.Rand, blocks, base, id int) api.Stream {
	often := 1 + r.Intn(3)
	l := make([]byte, blocks)
	for i := range l {
		switch {
		case r.Intn(4) < often:
			l[i] = 'd'
		case base != -1 && r.Intn(2) == 0:
			l[i] = 'z'
		default:
			l[i] = 'n'
		}
	}
	s := built(l, base, id)
	for _, record := range s.Records {
		for i := range record.Data {
			record.Data[i] = byte(r.Intn(2) * r.Intn(256))
		}
		for block := range slices.Chunk(record.Data, 64) {
			block[r.Intn(64)] |= 1 // no block is of zeros only
		}
	}
	return s
}

// each calls f for every list of n of these elements.
func each[T any](n int, of []T, f func(l []T)) {
	var grow func(l []T)
	grow = func(l []T) {
		if len(l) == n {
			f(slices.Clone(l))
			return
		}
		for _, x := range of {
			grow(append(slices.Clone(l), x))
		}
	}
	grow(nil)
}

// heads are valid streams without records, of many sizes.
func heads() []api.Stream {
	var out []api.Stream
	for _, blocks := range []int{1, 2, 9, 63, 64} {
		for _, x := range [][2]int{{-1, 1}, {-1, 2}, {1, 2}, {1, 300}, {299, 300}, {-1, 65536}, {65535, 65536}, {256, 999999}, {-1, 1000000}, {1, 1000000}, {999999, 1000000}, {0x030201, 0x060504}} {
			out = append(out, api.Stream{Blocks: blocks, Base: x[0], Id: x[1]})
		}
	}
	return out
}

// samples are valid streams of all sorts, no two of which are equal.
func samples() []api.Stream {
	out := append(heads(), full(), whole(), of(filled(0, 1)), of(filled(9, 1)), of(zeros(0, 1)), of(zeros(9, 1)), of(zeros(0, 10)), of(filled(0, 1, 2, 3, 4, 5, 6, 7, 8, 9, 10)))
	out = append(out,
		built([]byte{1}, -1, 1), built([]byte{1}, 1, 2), built([]byte("z"), 1, 2),
		built(bytes.Repeat([]byte("zd"), 32), 1, 2), built(bytes.Repeat([]byte("dz"), 32), 999999, 1000000), built(bytes.Repeat([]byte("dn"), 32), -1, 1000000),
		built(bytes.Repeat([]byte("d"), 64), -1, 5), built(bytes.Repeat([]byte("z"), 64), 4, 5), built([]byte("ndzzndznd"), 7, 8),
	)
	for at := range 64 {
		out = append(out, of(api.Record{From: 4, Count: 1, Data: single(1, at)}), of(api.Record{From: 4, Count: 3, Data: slices.Concat(data(5), single(1, at), data(6))}))
	}
	r := rand.New(rand.NewSource(16))
	for i := range 120 {
		id := 2 + r.Intn(1+r.Intn(999999))
		base := -1
		if i%3 > 0 {
			base = 1 + r.Intn(id-1)
		}
		out = append(out, drawn(r, 1+r.Intn(64), base, id))
	}
	return apart(out)
}

// apart returns l without what is equal to one ahead of it.
func apart(l []api.Stream) []api.Stream {
	var out []api.Stream
	for _, s := range l {
		if !slices.ContainsFunc(out, func(o api.Stream) bool { return equal(s, o) }) {
			out = append(out, s)
		}
	}
	return out
}

// anyStreams are streams most of which are not valid.
func anyStreams() []api.Stream {
	out := []api.Stream{
		{}, {Blocks: 1}, {Blocks: 1, Id: 1}, {Blocks: -1, Base: -1, Id: -1}, {Blocks: 65, Base: -1, Id: 1},
		{Blocks: math.MaxInt, Base: math.MaxInt, Id: math.MaxInt, Records: []api.Record{{From: math.MaxInt, Count: math.MaxInt}}},
		{Blocks: math.MinInt, Base: math.MinInt, Id: math.MinInt, Records: []api.Record{{From: math.MinInt, Count: math.MinInt, Zeros: true, Data: data(0)}}},
		{Blocks: 64, Base: 1, Id: 2, Records: slices.Repeat([]api.Record{zeros(0, 64)}, 100000)},
		{Blocks: 64, Base: 1, Id: 2, Records: slices.Repeat([]api.Record{filled(3, 0)}, 9)},
		of(api.Record{From: 3, Count: 1, Zeros: true, Data: data(4)}), of(api.Record{From: 3, Count: 1, Data: data(4)[:63]}), of(api.Record{From: 3, Count: 1, Data: append(data(4), 1)}),
	}
	for _, s := range []api.Stream{full(), whole()} {
		for _, edit := range edits(s) {
			out = append(out, edited(s, edit))
		}
	}
	return out
}

// edits change one thing in a stream each: a number, to others near and far, a kind, some bytes, or which records there are.
func edits(s api.Stream) []func(s *api.Stream) {
	var out []func(s *api.Stream)
	add := func(f func(s *api.Stream)) { out = append(out, f) }
	number := func(n int, field func(s *api.Stream) *int) {
		for _, to := range append(far(), n-2, n-1, n+1, n+2, -2, -1, 0, 1, 2, 64, 65, 1000000, 1000001) {
			add(func(s *api.Stream) { *field(s) = to })
		}
	}
	number(s.Blocks, func(s *api.Stream) *int { return &s.Blocks })
	number(s.Base, func(s *api.Stream) *int { return &s.Base })
	number(s.Id, func(s *api.Stream) *int { return &s.Id })
	for i, r := range s.Records {
		number(r.From, func(s *api.Stream) *int { return &s.Records[i].From })
		number(r.Count, func(s *api.Stream) *int { return &s.Records[i].Count })
		add(func(s *api.Stream) { s.Records[i].Zeros = !r.Zeros })
		add(func(s *api.Stream) { s.Records = slices.Delete(s.Records, i, i+1) })
		add(func(s *api.Stream) { s.Records = slices.Insert(s.Records, i, r) })
		add(func(s *api.Stream) { s.Records = s.Records[:i] })
		add(func(s *api.Stream) { s.Records[0], s.Records[i] = s.Records[i], s.Records[0] })
		for _, b := range [][]byte{nil, {0}, {1}, data(0), data(1), data(1, 1), data(1, 1, 1), append(slices.Clone(r.Data), 3), append(slices.Clone(r.Data), data(3)...), r.Data[:max(0, len(r.Data)-1)], r.Data[min(64, len(r.Data)):]} {
			add(func(s *api.Stream) { s.Records[i].Data = slices.Concat(b) })
		}
		for at := range r.Data {
			for _, to := range []byte{0, r.Data[at] + 1, r.Data[at] ^ 128} {
				add(func(s *api.Stream) { s.Records[i].Data[at] = to })
			}
		}
		for at := 0; at < len(r.Data); at += 64 {
			add(func(s *api.Stream) { clear(s.Records[i].Data[at : at+64]) })
			add(func(s *api.Stream) { clear(s.Records[i].Data[at : at+63]) })
			add(func(s *api.Stream) { clear(s.Records[i].Data[at+1 : at+64]) })
		}
	}
	return out
}
