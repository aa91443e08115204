package parse

import (
	"bytes"
	"encoding/hex"
	"slices"
	"testing"

	"revetment/api"
)

// hold holds Parse to an error, or to what the document's words make of the bytes; beside an error there is nothing.
func hold(t *testing.T, b []byte, want api.Errno) {
	t.Helper()
	s, e := Parse(b)
	told, f := toldParse(b)
	if f != want {
		t.Errorf("%s: the document's words say %v, not %v", short(b), f, want)
	}
	if e != want {
		t.Errorf("Parse(%s): %v, not %v", short(b), e, want)
	}
	if e != api.OK && !blank(s) {
		t.Errorf("Parse(%s): %v beside %v", short(b), brief(s), e)
	}
	if e == api.OK && !equal(s, told) {
		t.Errorf("Parse(%s) = %v, not %v", short(b), brief(s), brief(told))
	}
}

// short tells b without most of it.
func short(b []byte) string {
	if len(b) > 60 {
		return hex.EncodeToString(b[:40]) + ".." + hex.EncodeToString(b[len(b)-20:])
	}
	return hex.EncodeToString(b)
}

// lone is a stream without records.
func lone() api.Stream {
	return api.Stream{Blocks: 1, Base: -1, Id: 1}
}

// few are streams with no records, one and many, of both kinds.
func few() []api.Stream {
	return []api.Stream{lone(), of(zeros(2, 3)), of(filled(4, 3)), whole(), full()}
}

// each turn of a byte of a checksum: each bit, and all.
func turns() []turn {
	var l []turn
	for at := range 8 {
		for bit := range 8 {
			l = append(l, turn{at, 1 << bit})
		}
		l = append(l, turn{at, 255})
	}
	return l
}

// P17.1: the chapter's example.
func TestExamples(t *testing.T) {
	hold(t, []byte("RVS"), api.ErrShort)
	hold(t, []byte("RVX1"), api.ErrMagic)
}

// P17.1: streams written out, with their checksums.
func TestBytesByHand(t *testing.T) {
	b, _ := hex.DecodeString("52565331" + "0100" + "00000000" + "01000000" + "0000" + "55120e306818c7a9" + "45" + "bcca679ddda41c4c")
	if s, e := Parse(b); e != api.OK || !equal(s, lone()) {
		t.Errorf("%v, %v", brief(s), e)
	}
	b, _ = hex.DecodeString("52565331" + "0a00" + "02020300" + "04050600" + "0200")
	b = append(b, toldCheck(b)...)
	b = slices.Concat(b, []byte{1, 1, 0, 2, 0}, data(8, 9), toldCheck(slices.Concat([]byte{1, 1, 0, 2, 0}, data(8, 9))))
	b = slices.Concat(b, []byte{2, 3, 0, 7, 0}, toldCheck([]byte{2, 3, 0, 7, 0}))
	b = slices.Concat(b, []byte{0x45}, toldCheck(b))
	want := api.Stream{Blocks: 10, Base: 0x030201, Id: 0x060504, Records: []api.Record{filled(1, 8, 9), zeros(3, 7)}}
	if s, e := Parse(b); e != api.OK || !equal(s, want) {
		t.Errorf("%v, %v", brief(s), e)
	}
}

// P17.1: fewer than four bytes are short, whether they begin as they should or not.
func TestFewerThanFour(t *testing.T) {
	for _, b := range [][]byte{nil, {}, []byte("R"), []byte("RV"), []byte("RVS"), {0}, {0, 0}, {0, 0, 0}, []byte("r"), []byte("RX"), []byte("XVS"), []byte("RVX"), {255, 255, 255}} {
		hold(t, b, api.ErrShort)
	}
}

// P17.1: each of the first four bytes, with each other value, nothing behind them and much.
func TestMagic(t *testing.T) {
	for at := range 4 {
		for x := range 256 {
			b := []byte("RVS1")
			want := api.ErrMagic
			if b[at] == byte(x) {
				want = api.ErrShort
			}
			b[at] = byte(x)
			hold(t, b, want)
			hold(t, append(b, 0), want)
			hold(t, append(b, toldBytes(lone())[4:23]...), want)
			if want == api.ErrMagic {
				hold(t, drafted(full()).changed(func(d *draft) { d.magic = string(b) }), want)
				hold(t, append(b, toldBytes(full())[4:]...), want)
				hold(t, append(b, make([]byte, 10000)...), want)
			}
		}
	}
	for _, magic := range []string{"rvs1", "1SVR", "RVS2", "RVS\x01", "SVR1", "\x00RVS", "    ", "VS1R", "\x00\x00\x00\x00", "\xff\xff\xff\xff"} {
		hold(t, []byte(magic), api.ErrMagic)
		hold(t, drafted(full()).changed(func(d *draft) { d.magic = magic }), api.ErrMagic)
	}
}

// P17.1: a head of each length that is not all of it.
func TestHeadShort(t *testing.T) {
	for _, s := range few() {
		for n := 4; n < 24; n++ {
			hold(t, toldBytes(s)[:n], api.ErrShort)
		}
	}
	for n := 4; n < 24; n++ {
		hold(t, append([]byte("RVS1"), make([]byte, n-4)...), api.ErrShort)
		hold(t, append([]byte("RVS1"), bytes.Repeat([]byte{255}, n-4)...), api.ErrShort)
	}
}

// P17.1: each byte of the head's checksum turned, and each byte that it is of.
func TestHeadCheck(t *testing.T) {
	for _, s := range few() {
		for _, x := range turns() {
			b := drafted(s).changed(func(d *draft) { d.turn = x })
			hold(t, b, api.ErrCheck)
			hold(t, b[:24], api.ErrCheck)
		}
		for at := 4; at < 24; at++ {
			for x := 1; x < 256; x++ {
				b := toldBytes(s)
				b[at] ^= byte(x)
				hold(t, b, api.ErrCheck)
				hold(t, b[:24], api.ErrCheck)
			}
		}
	}
	hold(t, append([]byte("RVS1"), make([]byte, 20)...), api.ErrCheck)
	hold(t, append([]byte("RVS1"), bytes.Repeat([]byte{255}, 20)...), api.ErrCheck)
}

// P17.1: the checksum is that of the head alone, not of more or fewer bytes.
func TestHeadCheckOfOthers(t *testing.T) {
	b := toldBytes(full())
	for _, of := range [][]byte{nil, b[4:16], b[:15], b[1:16], b[:24], b} {
		c := slices.Clone(b)
		copy(c[16:], toldCheck(of))
		hold(t, c, api.ErrCheck)
	}
}

// P17.1: Blocks, each number that two bytes hold.
func TestBlocks(t *testing.T) {
	for n := range 65536 {
		want := api.ErrSize
		if n >= 1 && n <= 64 {
			want = api.OK
		}
		b := drafted(lone()).changed(func(d *draft) { d.blocks = n })
		if s, e := Parse(b); e != want || e == api.OK && s.Blocks != n {
			t.Fatalf("%d: %v", n, e)
		}
	}
	for _, n := range []int{0, 65, 66, 255, 256, 257, 320, 0x4000, 0x8000, 65535} {
		for _, s := range few() {
			b := drafted(s).changed(func(d *draft) { d.blocks = n })
			hold(t, b, api.ErrSize)
			hold(t, b[:24], api.ErrSize)
		}
	}
	for _, n := range []int{1, 2, 63, 64} {
		b := drafted(lone()).changed(func(d *draft) { d.blocks = n })
		hold(t, b, api.OK)
		hold(t, b[:24], api.ErrShort)
	}
	for n := 1; n < 10; n++ { // of the records, the first one ends at 2, the last one at 9
		want := api.ErrRange
		if n == 9 {
			want = api.OK
		}
		hold(t, drafted(whole()).changed(func(d *draft) { d.blocks = n }), want)
	}
}

// P17.1: Id, with and without a Base.
func TestId(t *testing.T) {
	for _, id := range []int{0, 1, 2, 3, 255, 256, 65535, 65536, 65537, 999999, 1000000, 1000001, 1000002, 1000000 + 65536, 1 << 20, 1 << 24, 1<<24 + 1, 1 << 31, 1<<31 + 1, 1<<32 - 2, 1<<32 - 1} {
		for _, next := range []int{0, 2} {
			want := api.ErrRange
			if id >= 1 && id <= 1000000 && next <= id {
				want = api.OK
			}
			for _, s := range []api.Stream{lone(), of(filled(4, 3))} {
				b := drafted(s).changed(func(d *draft) { d.id, d.next = id, next })
				hold(t, b, want)
				if want == api.ErrRange {
					hold(t, b[:24], want)
				}
			}
		}
	}
}

// P17.1: Base plus 1, for many an Id.
func TestBase(t *testing.T) {
	for _, id := range []int{1, 2, 3, 4, 255, 256, 300, 65536, 65537, 999999, 1000000} {
		for _, next := range []int{0, 1, 2, 3, 4, 255, 256, 257, 65535, 65536, 65537, id - 2, id - 1, id, id + 1, id + 2, 1000000, 1000001, 1 << 16, 1 << 24, 1<<24 + 1, 1<<24 + 2, 1 << 31, 1<<31 + 1, 1<<31 + 2, 1<<32 - 2, 1<<32 - 1} {
			if next < 0 {
				continue
			}
			want := api.ErrRange
			if next == 0 || next >= 2 && next <= id {
				want = api.OK
			}
			for _, s := range []api.Stream{lone(), of(filled(4, 3))} {
				b := drafted(s).changed(func(d *draft) { d.id, d.next = id, next })
				hold(t, b, want)
				if got, e := Parse(b); e == api.OK && (got.Base != next-1 || got.Id != id) {
					t.Errorf("%d, %d: %v", id, next, brief(got))
				}
				if want == api.ErrRange {
					hold(t, b[:24], want)
				}
			}
		}
	}
}

// P17.1: fewer records than there are: the next one stands where the end should be. More of them: the end stands where a record should be.
func TestNumberOfRecords(t *testing.T) {
	for _, s := range append(few(), built(bytes.Repeat([]byte("zd"), 32), 1, 2)) {
		d := drafted(s)
		starts := d.starts()
		for n := range len(s.Records) + 4 {
			want := api.ErrForm
			if n == len(s.Records) {
				want = api.OK
			}
			hold(t, d.changed(func(d *draft) { d.count = n }), want)
			if n > len(s.Records) {
				hold(t, d.changed(func(d *draft) { d.count = n }, cutTo(starts[len(s.Records)])), api.ErrShort)
			}
			if n < len(s.Records) {
				hold(t, d.changed(func(d *draft) { d.count = n }, cutTo(starts[n]+8)), api.ErrShort)
			}
		}
		for _, n := range []int{255, 256, 256 + len(s.Records), 512, 0x8000, 65535} {
			hold(t, d.changed(func(d *draft) { d.count = n }), api.ErrForm)
			hold(t, d.changed(func(d *draft) { d.count = n }, cutTo(starts[len(s.Records)])), api.ErrShort)
		}
	}
}

// P17.1: no more records are valid than there are blocks.
func TestMostRecords(t *testing.T) {
	s := built(bytes.Repeat([]byte("dz"), 32), 1, 2)
	if len(s.Records) != 64 {
		t.Fatal(len(s.Records))
	}
	d := drafted(s)
	hold(t, d.bytes(), api.OK)
	for _, p := range []piece{{mark: 1, from: 63, count: 1, data: data(1)}, {mark: 2, from: 63, count: 1}, {mark: 2, from: 0, count: 64}} {
		hold(t, d.changed(func(d *draft) { d.records, d.count = append(d.records, p), 65 }), api.ErrOrder)
	}
	many := draft{magic: "RVS1", blocks: 64, next: 2, id: 2, count: 65535, records: slices.Repeat([]piece{{mark: 2, from: 3, count: 1}}, 65535), end: 0x45, cut: -1}
	hold(t, many.bytes(), api.ErrOrder)
	many.records = slices.Repeat([]piece{{mark: 2, from: 3, count: 1}, {mark: 1, from: 4, count: 1, data: data(1)}}, 32768)[:65535]
	hold(t, many.bytes(), api.ErrOrder)
}

// eachRecord calls f for the draft of each of a few streams, and each of its records.
func eachRecord(f func(d draft, i int)) {
	for _, s := range few() {
		for i := range s.Records {
			f(drafted(s), i)
		}
	}
}

// P17.1: of each record, the first five bytes incomplete at every length.
func TestRecordShort(t *testing.T) {
	eachRecord(func(d draft, i int) {
		for n := range 5 {
			hold(t, d.changed(cutTo(d.starts()[i]+n)), api.ErrShort)
		}
	})
}

// P17.1: each other first byte of each record.
func TestRecordMark(t *testing.T) {
	eachRecord(func(d draft, i int) {
		for x := range 256 {
			if x == 1 || x == 2 {
				continue
			}
			edit := func(d *draft) { d.records[i].mark = byte(x) }
			hold(t, d.changed(edit), api.ErrForm)
			hold(t, d.changed(edit, cutTo(d.starts()[i]+5)), api.ErrForm)
		}
	})
}

// P17.1: the one mark in place of the other one, with a right checksum: there is too much, or too little.
func TestRecordOtherMark(t *testing.T) {
	one := func(p piece) []byte {
		d := drafted(of())
		d.count, d.records = 1, []piece{p}
		return d.bytes()
	}
	hold(t, one(piece{mark: 2, from: 3, count: 1, data: data(9)}), api.ErrCheck)
	hold(t, one(piece{mark: 2, from: 3, count: 1, data: data(0)}), api.ErrCheck)
	hold(t, one(piece{mark: 1, from: 3, count: 1}), api.ErrShort)
	hold(t, append(one(piece{mark: 1, from: 3, count: 1}), data(7)...), api.ErrCheck)
	hold(t, one(piece{mark: 1, from: 3, count: 1, data: data(9, 9)}), api.ErrCheck)
	hold(t, one(piece{mark: 1, from: 3, count: 1, data: data(9)[:63]}), api.ErrCheck)
	hold(t, one(piece{mark: 2, from: 3, count: 1, data: []byte{9}}), api.ErrCheck)
}

// P17.1: each From and each Count of a record that stands alone, with a right checksum; and the greatest ones.
func TestRecordPlace(t *testing.T) {
	for _, blocks := range []int{1, 2, 9, 64} {
		for from := range 70 {
			for count := range 70 {
				want := api.ErrRange
				if count > 0 && from+count <= blocks {
					want = api.OK
				}
				for mark := 1; mark <= 2; mark++ {
					p := piece{mark: byte(mark), from: from, count: count}
					if mark == 1 {
						p.data = bytes.Repeat([]byte{7}, 64*count)
					}
					d := draft{magic: "RVS1", blocks: blocks, next: 2, id: 2, count: 1, records: []piece{p}, end: 0x45, cut: -1}
					hold(t, d.bytes(), want)
				}
			}
		}
	}
}

// P17.1: a Count of 0, places at the end of the blocks and behind it, and the greatest numbers, in each record; what follows is not asked.
func TestRecordRange(t *testing.T) {
	eachRecord(func(d draft, i int) {
		blocks := d.blocks
		for _, x := range [][2]int{
			{0, 0}, {d.records[i].from, 0}, {blocks - 1, 0}, {blocks, 0}, {65535, 0},
			{blocks - 1, 2}, {blocks - 1, 3}, {blocks, 1}, {blocks, 2}, {blocks + 1, 1}, {0, blocks + 1}, {1, blocks}, {d.records[i].from, blocks - d.records[i].from + 1},
			{65535, 1}, {65535, 2}, {65534, 2}, {65535 - blocks, blocks + 1}, {65535, blocks}, {65535, 65535}, {0, 65535}, {1, 65535}, {2, 65535}, {blocks - 1, 65535}, {1, 65534},
			{256, 1}, {256 + blocks - 1, 1}, {0, 256}, {0, 257}, {0, 256 + blocks}, {0x8000, 1}, {0, 0x8000}, {0x8000, 0x8000}, {0x8001, 0x8000},
		} {
			edit := func(d *draft) { d.records[i].from, d.records[i].count = x[0], x[1] }
			hold(t, d.changed(edit), api.ErrRange)
			hold(t, d.changed(edit, cutTo(d.starts()[i]+5)), api.ErrRange)
			hold(t, d.changed(edit, func(d *draft) { d.more = make([]byte, 5000) }), api.ErrRange)
		}
	})
	b := []byte{1, 1, 0, 255, 255}
	b = append(b, bytes.Repeat([]byte{1}, 64*65535)...) // all the Data that the greatest Count asks for
	b = append(b, toldCheck(b)...)
	hold(t, append(drafted(of(zeros(0, 1))).head(), b...), api.ErrRange)
}

// P17.1: a record may end with the last block, and begin there.
func TestRecordAtEnd(t *testing.T) {
	for _, blocks := range []int{1, 2, 9, 64} {
		for _, r := range []api.Record{zeros(blocks-1, 1), filled(blocks-1, 8), zeros(0, blocks), filled(0, bytes.Repeat([]byte{3}, blocks)...)} {
			hold(t, toldBytes(api.Stream{Blocks: blocks, Base: 1, Id: 2, Records: []api.Record{r}}), api.OK)
		}
	}
}

// P17.1: the Data and the checksum of each record incomplete at every length.
func TestRecordDataShort(t *testing.T) {
	eachRecord(func(d draft, i int) {
		starts := d.starts()
		for n := starts[i] + 5; n < starts[i+1]; n++ {
			hold(t, d.changed(cutTo(n)), api.ErrShort)
		}
	})
}

// P17.1: each byte of each record's checksum turned, with what follows and without.
func TestRecordCheck(t *testing.T) {
	eachRecord(func(d draft, i int) {
		for _, x := range turns() {
			edit := func(d *draft) { d.records[i].turn = x }
			hold(t, d.changed(edit), api.ErrCheck)
			hold(t, d.changed(edit, cutTo(d.starts()[i+1])), api.ErrCheck)
		}
	})
}

// P17.1: the checksum is that of the record's own bytes: not of its Data, nor of what is ahead of it.
func TestRecordCheckOfOthers(t *testing.T) {
	eachRecord(func(d draft, i int) {
		b := d.bytes()
		start, end := d.starts()[i], d.starts()[i+1]-8
		for _, of := range [][]byte{nil, b[start+1 : end], b[start+5 : end], b[start : start+5], b[:end], b[24:end], b[start : end-1], b[start : end+8]} {
			if start == 24 && len(of) == end-start || len(of) == 5 && end-start == 5 {
				continue // these are its own bytes
			}
			c := slices.Clone(b)
			copy(c[end:], toldCheck(of))
			hold(t, c, api.ErrCheck)
		}
	})
}

// disorder holds Parse to ErrOrder for the last of these records, with right checksums; nothing that follows is asked.
func disorder(t *testing.T, l ...api.Record) {
	t.Helper()
	d := drafted(of(l...))
	hold(t, d.bytes(), api.ErrOrder)
	hold(t, d.changed(cutTo(d.starts()[len(l)])), api.ErrOrder)
	for _, behind := range []api.Record{filled(9, 1), zeros(9, 1), filled(0, 1)} {
		hold(t, drafted(of(slices.Concat(l, []api.Record{behind})...)).bytes(), api.ErrOrder)
	}
}

// P17.1: records that overlap.
func TestOverlap(t *testing.T) {
	disorder(t, filled(2, 1, 2), filled(3, 1))
	disorder(t, filled(2, 1, 2), zeros(3, 1))
	disorder(t, zeros(2, 2), filled(3, 1, 5))
	disorder(t, zeros(2, 2), zeros(1, 2))
	disorder(t, zeros(0, 10), filled(4, 1))
	disorder(t, filled(4, 1), zeros(0, 10))
	disorder(t, filled(0, 1), zeros(4, 3), filled(6, 1))
}

// P17.1: records in falling order.
func TestFalling(t *testing.T) {
	disorder(t, filled(5, 1), filled(3, 1))
	disorder(t, filled(5, 1), zeros(3, 2))
	disorder(t, zeros(9, 1), filled(0, 1))
	disorder(t, zeros(1, 1), zeros(5, 1), zeros(3, 1))
	disorder(t, filled(1, 1), zeros(2, 2), zeros(0, 1))
}

// P17.1: twice the same record.
func TestTwice(t *testing.T) {
	disorder(t, filled(5, 1), filled(5, 1))
	disorder(t, zeros(5, 1), zeros(5, 1))
	disorder(t, filled(5, 1), filled(7, 2), filled(5, 1))
	disorder(t, filled(5, 1), filled(7, 2), filled(7, 2))
}

// P17.1: records that touch are in a valid stream if they are unlike; with a block between them, they may be alike.
func TestTouching(t *testing.T) {
	disorder(t, filled(5, 1), filled(6, 1))
	disorder(t, zeros(5, 1), zeros(6, 1))
	disorder(t, zeros(0, 5), zeros(5, 5))
	disorder(t, filled(0, 1), zeros(2, 2), zeros(4, 1))
	for _, l := range [][]api.Record{
		{filled(5, 1), zeros(6, 1)}, {zeros(5, 1), filled(6, 1)}, {zeros(0, 5), filled(5, 1, 2, 3, 4, 5)}, {zeros(5, 1), filled(6, 1), zeros(7, 1)},
		{filled(5, 1), filled(7, 1)}, {zeros(5, 1), zeros(7, 1)},
	} {
		hold(t, drafted(of(l...)).bytes(), api.OK)
	}
}

// P17.1: a block of zeros only, in the first, a middle and the last place; and one with a byte that is not 0.
func TestZeroBlock(t *testing.T) {
	for _, b := range [][]byte{data(0), data(0, 1, 2), data(1, 0, 2), data(1, 2, 0), data(0, 0), single(2, 63), single(2, 64)} {
		disorder(t, api.Record{From: 3, Count: len(b) / 64, Data: b})
		disorder(t, filled(0, 1), api.Record{From: 3, Count: len(b) / 64, Data: b})
	}
	for _, b := range [][]byte{single(1, 0), single(1, 63), slices.Concat(data(1), single(1, 9)), slices.Concat(single(1, 9), data(1))} {
		hold(t, drafted(of(api.Record{From: 3, Count: len(b) / 64, Data: b})).bytes(), api.OK)
	}
}

// P17.1: a record of zeros is in no stream without a Base: the first, a middle and the last one.
func TestZerosWithoutBase(t *testing.T) {
	for _, l := range [][]api.Record{{zeros(0, 1)}, {zeros(0, 10)}, {zeros(0, 1), filled(2, 1), filled(4, 1)}, {filled(0, 1), zeros(2, 1), filled(4, 1)}, {filled(0, 1), filled(2, 1), zeros(3, 7)}} {
		d := drafted(of(l...))
		hold(t, d.bytes(), api.OK)
		hold(t, d.changed(func(d *draft) { d.next = 0 }), api.ErrOrder)
	}
	hold(t, drafted(full()).changed(func(d *draft) { d.next = 0 }), api.ErrOrder)
}

// P17.1: each block of each record of zeros only, and its bytes of zeros but for one.
func TestZeroBlocks(t *testing.T) {
	eachRecord(func(d draft, i int) {
		n := len(d.records[i].data)
		for block := 0; block < n; block += 64 {
			hold(t, d.changed(func(d *draft) { clear(d.records[i].data[block : block+64]) }), api.ErrOrder)
			for at := block; at < block+64; at++ {
				hold(t, d.changed(func(d *draft) { clear(d.records[i].data[block : block+64]); d.records[i].data[at] = 1 }), api.OK)
			}
		}
		if n > 0 {
			hold(t, d.changed(func(d *draft) { clear(d.records[i].data) }), api.ErrOrder)
		}
	})
}

// P17.1: two records of all kinds and places in few blocks, with right checksums.
func TestAllPairs(t *testing.T) {
	var pieces []piece
	for from := range 4 {
		for count := range 4 {
			pieces = append(pieces, piece{mark: 2, from: from, count: count}, piece{mark: 1, from: from, count: count, data: bytes.Repeat([]byte{7}, 64*count)})
			if count > 0 {
				pieces = append(pieces, piece{mark: 1, from: from, count: count, data: single(count, 64*count-1)})
			}
		}
	}
	seen := map[api.Errno]int{}
	for _, next := range []int{0, 2} {
		for _, a := range pieces {
			for _, b := range pieces {
				d := draft{magic: "RVS1", blocks: 3, next: next, id: 2, count: 2, records: []piece{a, b}, end: 0x45, cut: -1}
				_, want := toldParse(d.bytes())
				hold(t, d.bytes(), want)
				seen[want]++
			}
		}
	}
	if seen[api.OK] < 10 || seen[api.ErrRange] < 100 || seen[api.ErrOrder] < 100 || len(seen) != 3 {
		t.Error(seen)
	}
}

// P17.1: the end incomplete at every length.
func TestEndShort(t *testing.T) {
	for _, s := range few() {
		b := toldBytes(s)
		for n := range 9 {
			hold(t, b[:len(b)-9+n], api.ErrShort)
		}
	}
}

// P17.1: each byte in the place of 45.
func TestEndMark(t *testing.T) {
	for _, s := range few() {
		for x := range 256 {
			if x == 0x45 {
				continue
			}
			hold(t, drafted(s).changed(func(d *draft) { d.end = byte(x) }), api.ErrForm)
		}
	}
}

// P17.1: each byte of the end's checksum turned; and checksums of other bytes than those ahead of the 45.
func TestEndCheck(t *testing.T) {
	for _, s := range few() {
		for _, x := range turns() {
			hold(t, drafted(s).changed(func(d *draft) { d.endTurn = x }), api.ErrCheck)
		}
		b := toldBytes(s)
		n := len(b) - 9
		for _, of := range [][]byte{nil, b[:n+1], b[:n-8], b[:n-1], b[1:n], b[24:n]} {
			hold(t, slices.Concat(b[:n+1], toldCheck(of)), api.ErrCheck)
		}
	}
}

// P17.1: bytes behind the end: one, and many.
func TestLong(t *testing.T) {
	for _, s := range few() {
		b := toldBytes(s)
		for _, more := range [][]byte{{0}, {255}, {0x45}, {1}, b, b[:8], b[len(b)-9:], make([]byte, 100000)} {
			hold(t, slices.Concat(b, more), api.ErrLong)
		}
	}
}

// P17.1: a stream's encoding cut short at every length.
func TestEachLength(t *testing.T) {
	for _, s := range append(few(), samples()...) {
		b := toldBytes(s)
		for n := range b {
			if _, e := Parse(b[:n]); e != api.ErrShort {
				t.Fatalf("%v, %d bytes: %v", brief(s), n, e)
			}
			if n%16 == 0 || n < 100 || n > len(b)-100 {
				hold(t, b[:n:n], api.ErrShort)
			}
		}
	}
}

// P17.1, P17.2: a stream's encoding with each of its bytes turned: it is never accepted.
func TestEachByteTurned(t *testing.T) {
	for _, s := range append(few(), built([]byte{1, 'z', 'n', 2}, 1, 2)) {
		b := toldBytes(s)
		for at := range b {
			for x := 1; x < 256; x++ {
				if x&(x-1) != 0 && x != 3 && x != 255 && len(b) > 200 {
					continue
				}
				c := slices.Clone(b)
				c[at] ^= byte(x)
				_, want := toldParse(c)
				if want == api.OK {
					t.Fatalf("%v: byte %d", brief(s), at)
				}
				hold(t, c, want)
			}
		}
	}
}

// P17.1: a byte taken out, put in or doubled, at each place.
func TestEachByteMoved(t *testing.T) {
	for _, s := range few() {
		b := toldBytes(s)
		for at := range b {
			for _, c := range [][]byte{slices.Delete(slices.Clone(b), at, at+1), slices.Insert(slices.Clone(b), at, 0), slices.Insert(slices.Clone(b), at, b[at])} {
				_, want := toldParse(c)
				hold(t, c, want)
			}
		}
	}
}
