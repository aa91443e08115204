package parse

import (
	"bytes"
	"encoding/binary"
	"fmt"
	"hash/fnv"
	"math/rand"
	"slices"

	"revetment/api"
)

// fault is something that may be wrong, and its error.
type fault struct {
	e     api.Errno
	there func() bool
}

// firstOf returns the error of the first fault that is there; those behind it are not asked.
func firstOf(l ...fault) api.Errno {
	for _, f := range l {
		if f.there() {
			return f.e
		}
	}
	return api.OK
}

// number is what the bytes represent, the lowest one first.
func number(b []byte) int {
	n := 0
	for i, x := range b {
		n += int(x) << (8 * i)
	}
	return n
}

// toldParse follows the document's words, fault by fault.
func toldParse(b []byte) (api.Stream, api.Errno) {
	var s api.Stream
	e := firstOf(
		fault{api.ErrShort, func() bool { return len(b) < 4 }},
		fault{api.ErrMagic, func() bool { return string(b[:4]) != "\x52\x56\x53\x31" }},
		fault{api.ErrShort, func() bool { return len(b) < 4+2+4+4+2+8 }},
		fault{api.ErrCheck, func() bool { return string(b[16:24]) != string(toldCheck(b[:16])) }},
		fault{api.ErrSize, func() bool { s.Blocks = number(b[4:6]); return s.Blocks < 1 || s.Blocks > 64 }},
		fault{api.ErrRange, func() bool { s.Id = number(b[10:14]); return s.Id < 1 || s.Id > 1000000 }},
		fault{api.ErrRange, func() bool { n := number(b[6:10]); s.Base = n - 1; return n == 1 || n > s.Id }},
	)
	if e != api.OK {
		return api.Stream{}, e
	}
	done, rest := 24, b[24:]
	for range number(b[14:16]) {
		r, e := toldRecord(rest, s)
		if e != api.OK {
			return api.Stream{}, e
		}
		s.Records = append(s.Records, r)
		size := 5 + len(r.Data) + 8
		done, rest = done+size, rest[size:]
	}
	e = firstOf(
		fault{api.ErrShort, func() bool { return len(rest) < 9 }},
		fault{api.ErrForm, func() bool { return rest[0] != 0x45 }},
		fault{api.ErrCheck, func() bool { return string(rest[1:9]) != string(toldCheck(b[:done])) }},
		fault{api.ErrLong, func() bool { return len(rest) > 9 }},
	)
	if e != api.OK {
		return api.Stream{}, e
	}
	return s, api.OK
}

// toldRecord reads the next record of s, which has those ahead of it.
func toldRecord(b []byte, s api.Stream) (api.Record, api.Errno) {
	var r api.Record
	size := 5
	e := firstOf(
		fault{api.ErrShort, func() bool { return len(b) < 5 }},
		fault{api.ErrForm, func() bool { r.Zeros = b[0] == 2; return b[0] != 1 && b[0] != 2 }},
		fault{api.ErrRange, func() bool { r.Count = number(b[3:5]); return r.Count == 0 }},
		fault{api.ErrRange, func() bool { r.From = number(b[1:3]); return r.From+r.Count-1 > s.Blocks-1 }},
		fault{api.ErrShort, func() bool {
			if !r.Zeros {
				size += 64 * r.Count
			}
			return len(b) < size+8
		}},
		fault{api.ErrCheck, func() bool { return string(b[size:size+8]) != string(toldCheck(b[:size])) }},
		fault{api.ErrOrder, func() bool {
			r.Data = slices.Concat(b[5:size])
			return !toldOrder(append(slices.Clone(s.Records), r), s.Base)
		}},
	)
	return r, e
}

// toldOrder reports whether records that are in their ranges, and whose Data have the right length, make a valid stream.
func toldOrder(l []api.Record, base int) bool {
	for i, r := range l {
		if r.Zeros && base == -1 || !r.Zeros && !toldFilled(r) {
			return false
		}
		for _, before := range l[:i] {
			end := before.From + before.Count
			if r.From < end || r.From == end && r.Zeros == before.Zeros {
				return false
			}
		}
	}
	return true
}

// draft is a stream's bytes to be, with right checksums unless a byte of them is to be turned.
type draft struct {
	magic                   string
	blocks, next, id, count int // next is Base plus 1, count the number of records
	turn                    turn
	records                 []piece
	end                     byte
	endTurn                 turn
	more                    []byte // what follows
	cut                     int    // how many bytes stay; -1: all of them
}

// piece is a record's bytes to be.
type piece struct {
	mark        byte
	from, count int
	data        []byte
	turn        turn
}

// turn is which bits of which byte of a checksum are to be turned; none, for {}.
type turn struct {
	at int
	by byte
}

func (x turn) check(b []byte) []byte {
	c := toldCheck(b)
	c[x.at] ^= x.by
	return c
}

func (p piece) bytes() []byte {
	b := []byte{p.mark, byte(p.from), byte(p.from >> 8), byte(p.count), byte(p.count >> 8)}
	b = append(b, p.data...)
	return append(b, p.turn.check(b)...)
}

func (d draft) head() []byte {
	b := append([]byte(d.magic), byte(d.blocks), byte(d.blocks>>8))
	b = binary.LittleEndian.AppendUint32(b, uint32(d.next))
	b = binary.LittleEndian.AppendUint32(b, uint32(d.id))
	b = append(b, byte(d.count), byte(d.count>>8))
	return append(b, d.turn.check(b)...)
}

func (d draft) bytes() []byte {
	b := d.head()
	for _, p := range d.records {
		b = append(b, p.bytes()...)
	}
	check := d.endTurn.check(b)
	b = slices.Concat(b, []byte{d.end}, check, d.more)
	if d.cut >= 0 {
		return b[:min(d.cut, len(b))]
	}
	return b
}

// starts returns where the records begin, and the end.
func (d draft) starts() []int {
	l := []int{24}
	for i, p := range d.records {
		l = append(l, l[i]+len(p.bytes()))
	}
	return l
}

// drafted is the draft of a stream.
func drafted(s api.Stream) draft {
	d := draft{magic: "RVS1", blocks: s.Blocks, next: s.Base + 1, id: s.Id, count: len(s.Records), end: 0x45, cut: -1}
	for _, r := range s.Records {
		p := piece{mark: 1, from: r.From, count: r.Count, data: slices.Concat(r.Data)}
		if r.Zeros {
			p.mark = 2
		}
		d.records = append(d.records, p)
	}
	return d
}

// changed returns the bytes of d, changed; d itself stays.
func (d draft) changed(l ...func(d *draft)) []byte {
	d.records = slices.Clone(d.records)
	for i, p := range d.records {
		d.records[i].data = slices.Clone(p.data)
	}
	for _, f := range l {
		f(&d)
	}
	return d.bytes()
}

// cutTo cuts a draft, if it is not cut ahead of that.
func cutTo(n int) func(d *draft) {
	return func(d *draft) {
		if d.cut < 0 || d.cut > n {
			d.cut = n
		}
	}
}

// blank reports whether there is nothing in s.
func blank(s api.Stream) bool {
	return s.Blocks == 0 && s.Base == 0 && s.Id == 0 && len(s.Records) == 0
}

// data returns a block of each of these bytes.
func data(l ...byte) []byte {
	var b []byte
	for _, x := range l {
		b = append(b, bytes.Repeat([]byte{x}, 64)...)
	}
	return b
}

// single returns so many blocks of zeros but for one byte.
func single(blocks, at int) []byte {
	b := make([]byte, blocks*64)
	b[at] = 0x80
	return b
}

func zeros(from, count int) api.Record {
	return api.Record{From: from, Count: count, Zeros: true}
}

func filled(from int, l ...byte) api.Record {
	return api.Record{From: from, Count: len(l), Data: data(l...)}
}

// full is a valid stream with records of both kinds, of one block and of many, some with blocks between them.
func full() api.Stream {
	return api.Stream{Blocks: 20, Base: 3, Id: 300, Records: []api.Record{
		filled(0, 1, 2), zeros(2, 3), filled(5, 9), filled(7, 8, 7, 6), zeros(11, 1), zeros(13, 2), filled(15, 255), zeros(18, 2),
	}}
}

// whole is a valid stream of all blocks of a snapshot.
func whole() api.Stream {
	return api.Stream{Blocks: 9, Base: -1, Id: 70000, Records: []api.Record{filled(1, 1), filled(3, 2, 3, 4), filled(8, 5)}}
}

// of returns a stream of ten blocks with these records.
func of(l ...api.Record) api.Stream {
	return api.Stream{Blocks: 10, Base: 1, Id: 2, Records: l}
}

// brief tells s without most of its bytes.
func brief(s api.Stream) string {
	out := fmt.Sprintf("%d blocks, %d to %d,", s.Blocks, s.Base, s.Id)
	for i, r := range s.Records {
		if i == 9 {
			return out + fmt.Sprintf(" .. %d records", len(s.Records))
		}
		out += fmt.Sprintf(" %d+%d", r.From, r.Count)
		if r.Zeros {
			out += "z"
		}
		out += fmt.Sprintf(":%d(%x)", len(r.Data), r.Data[:min(4, len(r.Data))])
	}
	return out
}

// equal reports whether two streams are equal in everything.
func equal(a, b api.Stream) bool {
	if a.Blocks != b.Blocks || a.Base != b.Base || a.Id != b.Id || len(a.Records) != len(b.Records) {
		return false
	}
	for i, r := range a.Records {
		o := b.Records[i]
		if r.From != o.From || r.Count != o.Count || r.Zeros != o.Zeros || string(r.Data) != string(o.Data) {
			return false
		}
	}
	return true
}

// toldFilled reports whether r has the bytes of its blocks, none of which is of zeros only.
func toldFilled(r api.Record) bool {
	if len(r.Data) != 64*r.Count {
		return false
	}
	for i := range r.Count {
		if string(r.Data[64*i:64*i+64]) == string(make([]byte, 64)) {
			return false
		}
	}
	return true
}

// toldCheck is the checksum as the library has it.
func toldCheck(b []byte) []byte {
	h := fnv.New64a()
	h.Write(b)
	return binary.LittleEndian.AppendUint64(nil, h.Sum64())
}

// toldBytes writes the encoding of a valid stream, the numbers byte by byte.
func toldBytes(s api.Stream) []byte {
	b := []byte{0x52, 0x56, 0x53, 0x31, byte(s.Blocks), byte(s.Blocks / 256)}
	b = binary.LittleEndian.AppendUint32(b, uint32(s.Base+1))
	b = binary.LittleEndian.AppendUint32(b, uint32(s.Id))
	b = append(b, byte(len(s.Records)), byte(len(s.Records)/256))
	b = append(b, toldCheck(b)...)
	for _, r := range s.Records {
		own := []byte{1, byte(r.From), byte(r.From / 256), byte(r.Count), byte(r.Count / 256)}
		if r.Zeros {
			own[0] = 2
		}
		own = append(own, r.Data...)
		b = append(append(b, own...), toldCheck(own)...)
	}
	check := toldCheck(b)
	return append(append(b, 0x45), check...)
}

// built makes the stream in which block i is absent if l[i] is 'n', zeros if it is 'z', and otherwise filled with the byte l[i]. Each valid stream of such blocks is built from one l.
func built(l []byte, base, id int) api.Stream {
	s := api.Stream{Blocks: len(l), Base: base, Id: id}
	for i, x := range l {
		if x == 'n' {
			continue
		}
		last := len(s.Records) - 1
		if i == 0 || l[i-1] == 'n' || (l[i-1] == 'z') != (x == 'z') {
			s.Records = append(s.Records, api.Record{From: i, Zeros: x == 'z'})
			last++
		}
		s.Records[last].Count++
		if x != 'z' {
			s.Records[last].Data = append(s.Records[last].Data, data(x)...)
		}
	}
	return s
}

// drawn makes a valid stream by luck; some of its bytes are 0.
func drawn(r *rand.Rand, blocks, base, id int) api.Stream {
	often := 1 + r.Intn(3)
	l := make([]byte, blocks)
	for i := range l {
		switch {
		case r.Intn(4) < often:
			l[i] = 'd'
		case base != -1 && r.Intn(2) == 0:
			l[i] = 'z'
		default:
			l[i] = 'n'
		}
	}
	s := built(l, base, id)
	for _, record := range s.Records {
		for i := range record.Data {
			record.Data[i] = byte(r.Intn(2) * r.Intn(256))
		}
		for block := range slices.Chunk(record.Data, 64) {
			block[r.Intn(64)] |= 1 // no block is of zeros only
		}
	}
	return s
}

// each calls f for every list of n of these elements.
func each[T any](n int, of []T, f func(l []T)) {
	var grow func(l []T)
	grow = func(l []T) {
		if len(l) == n {
			f(slices.Clone(l))
			return
		}
		for _, x := range of {
			grow(append(slices.Clone(l), x))
		}
	}
	grow(nil)
}

// heads are valid streams without records, of many sizes.
func heads() []api.Stream {
	var out []api.Stream
	for _, blocks := range []int{1, 2, 9, 63, 64} {
		for _, x := range [][2]int{{-1, 1}, {-1, 2}, {1, 2}, {1, 300}, {299, 300}, {-1, 65536}, {65535, 65536}, {256, 999999}, {-1, 1000000}, {1, 1000000}, {999999, 1000000}, {0x030201, 0x060504}} {
			out = append(out, api.Stream{Blocks: blocks, Base: x[0], Id: x[1]})
		}
	}
	return out
}

// samples are valid streams of all sorts, no two of which are equal.
func samples() []api.Stream {
	out := append(heads(), full(), whole(), of(filled(0, 1)), of(filled(9, 1)), of(zeros(0, 1)), of(zeros(9, 1)), of(zeros(0, 10)), of(filled(0, 1, 2, 3, 4, 5, 6, 7, 8, 9, 10)))
	out = append(out,
		built([]byte{1}, -1, 1), built([]byte{1}, 1, 2), built([]byte("z"), 1, 2),
		built(bytes.Repeat([]byte("zd"), 32), 1, 2), built(bytes.Repeat([]byte("dz"), 32), 999999, 1000000), built(bytes.Repeat([]byte("dn"), 32), -1, 1000000),
		built(bytes.Repeat([]byte("d"), 64), -1, 5), built(bytes.Repeat([]byte("z"), 64), 4, 5), built([]byte("ndzzndznd"), 7, 8),
	)
	for at := range 64 {
		out = append(out, of(api.Record{From: 4, Count: 1, Data: single(1, at)}), of(api.Record{From: 4, Count: 3, Data: slices.Concat(data(5), single(1, at), data(6))}))
	}
	r := rand.New(rand.NewSource(16))
	for i := range 120 {
		id := 2 + r.Intn(1+r.Intn(999999))
		base := -1
		if i%3 > 0 {
			base = 1 + r.Intn(id-1)
		}
		out = append(out, drawn(r, 1+r.Intn(64), base, id))
	}
	return apart(out)
}

// apart returns l without what is equal to one ahead of it.
func apart(l []api.Stream) []api.Stream {
	var out []api.Stream
	for _, s := range l {
		if !slices.ContainsFunc(out, func(o api.Stream) bool { return equal(s, o) }) {
			out = append(out, s)
		}
	}
	return out
}
