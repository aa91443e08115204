package stream

import (
	"bytes"
	"math"
	"math/rand"
	"slices"
	"testing"

	"revetment/api"
)

// judge holds Good and Encode to which streams are valid: Encode takes just what is good.
func judge(t *testing.T, s api.Stream, want bool) {
	t.Helper()
	if Good(s) != want {
		t.Errorf("Good(%v) is %v", brief(s), !want)
	}
	b, e := Encode(s)
	if want && (e != api.OK || !bytes.Equal(b, toldBytes(s))) {
		t.Errorf("Encode(%v): %d bytes, %v", brief(s), len(b), e)
	}
	if !want && (e != api.ErrForm || len(b) != 0) {
		t.Errorf("Encode(%v) = %v, %v", brief(s), b, e)
	}
	if toldGood(s) != want {
		t.Errorf("%v: the document's words say %v", brief(s), !want)
	}
}

// P16.1: the streams of these tests are valid.
func TestGoodOfValid(t *testing.T) {
	for _, s := range samples() {
		judge(t, s, true)
	}
}

// P16.1: Blocks is in the range 1 to MaxBlocks.
func TestGoodOfBlocks(t *testing.T) {
	for blocks := -70; blocks < 300; blocks++ {
		judge(t, api.Stream{Blocks: blocks, Base: -1, Id: 1}, blocks >= 1 && blocks <= 64)
		judge(t, edited(full(), func(s *api.Stream) { s.Blocks = blocks }), blocks >= 20 && blocks <= 64)
		judge(t, edited(whole(), func(s *api.Stream) { s.Blocks = blocks }), blocks >= 9 && blocks <= 64)
	}
	for _, blocks := range far() {
		judge(t, api.Stream{Blocks: blocks, Base: -1, Id: 1}, false)
		judge(t, api.Stream{Blocks: blocks, Base: 1, Id: 2}, false)
		judge(t, edited(full(), func(s *api.Stream) { s.Blocks = blocks }), false)
	}
}

// P16.1: Id is in the range 1 to 1000000; without a Base, each of them does.
func TestGoodOfId(t *testing.T) {
	for _, id := range append(far(), -1000000, -2, -1, 0, 1, 2, 3, 4, 255, 65535, 999999, 1000000, 1000001, 1000002, 1<<24+1) {
		in := id >= 1 && id <= 1000000
		judge(t, api.Stream{Blocks: 1, Base: -1, Id: id}, in)
		judge(t, edited(whole(), func(s *api.Stream) { s.Id = id }), in)
		judge(t, edited(full(), func(s *api.Stream) { s.Id = id }), in && id > 3)
	}
}

// P16.1: Base is -1 or in the range 1 to Id - 1.
func TestGoodOfBase(t *testing.T) {
	for _, id := range []int{1, 2, 3, 4, 300, 65536, 999999, 1000000} {
		for _, base := range append(far(), -1000000, -3, -2, -1, 0, 1, 2, 3, 299, 300, 301, id-2, id-1, id, id+1, id+2, 1000000, 1000001) {
			later := base >= 1 && base < id
			judge(t, api.Stream{Blocks: 7, Base: base, Id: id}, later || base == -1)
			judge(t, api.Stream{Blocks: 7, Base: base, Id: id, Records: []api.Record{filled(6, 3)}}, later || base == -1)
			judge(t, api.Stream{Blocks: 7, Base: base, Id: id, Records: []api.Record{zeros(0, 7)}}, later)
		}
	}
	judge(t, api.Stream{Blocks: 1, Base: 1, Id: 1}, false)
	judge(t, api.Stream{Blocks: 1, Base: math.MinInt, Id: math.MinInt + 1}, false)
	judge(t, api.Stream{Blocks: 1, Base: -1, Id: 0}, false)
	judge(t, api.Stream{Blocks: 1, Base: 1, Id: math.MinInt}, false)
}

// P16.1: a stream may have no records, whatever its Base.
func TestGoodOfNoRecords(t *testing.T) {
	for _, s := range heads() {
		judge(t, s, true)
		judge(t, edited(s, func(s *api.Stream) { s.Records = []api.Record{} }), true)
		judge(t, edited(s, func(s *api.Stream) { s.Records = full().Records[:0] }), true)
		judge(t, edited(s, func(s *api.Stream) { s.Records = []api.Record{{}} }), false)
	}
}

// P16.1: each Count is at least 1, the first, a middle and the last one.
func TestGoodOfCount(t *testing.T) {
	for _, count := range append(far(), -64, -2, -1, 0) {
		for _, b := range [][]byte{nil, {}, data(1), data(1, 2)} {
			for _, from := range []int{0, 4, 9} {
				judge(t, of(api.Record{From: from, Count: count, Data: b}), false)
				judge(t, of(api.Record{From: from, Count: count, Zeros: true}), false)
			}
			for i := range full().Records {
				judge(t, edited(full(), func(s *api.Stream) { s.Records[i].Count, s.Records[i].Data = count, b }), false)
			}
		}
	}
	for count := 1; count < 12; count++ {
		judge(t, of(zeros(0, count)), count <= 10)
		judge(t, of(zeros(4, count)), count <= 6)
		judge(t, of(filled(0, bytes.Repeat([]byte{7}, count)...)), count <= 10)
		judge(t, of(filled(4, bytes.Repeat([]byte{7}, count)...)), count <= 6)
	}
}

// P16.1: each record is within 0 to Blocks - 1.
func TestGoodOfPlace(t *testing.T) {
	for _, blocks := range []int{1, 2, 9, 63, 64} {
		for from := -3; from < 70; from++ {
			for count := 1; count < 70; count++ {
				s := api.Stream{Blocks: blocks, Base: 1, Id: 2, Records: []api.Record{zeros(from, count)}}
				if want := from >= 0 && from+count <= blocks; Good(s) != want || toldGood(s) != want {
					t.Fatalf("Good(%v) is %v", brief(s), !want)
				}
			}
		}
	}
	const most = math.MaxInt
	for _, r := range []api.Record{
		filled(-1, 1), filled(-1, 1, 2), filled(-2, 1, 2), filled(10, 1), filled(11, 1), filled(9, 1, 2), filled(most, 1), filled(most-1, 1, 2), filled(math.MinInt, 1),
		zeros(-1, 1), zeros(-1, 2), zeros(-1, 11), zeros(-1, 12), zeros(10, 1), zeros(9, 2), zeros(0, 11), zeros(1, 10),
		zeros(1, most), zeros(2, most), zeros(2, most-1), zeros(9, most), zeros(9, most-8), zeros(most, 1), zeros(most, 2), zeros(most, most), zeros(most-1, 1), zeros(most-1, 2), zeros(most-9, 10), zeros(most-9, 11),
		zeros(math.MinInt, 1), zeros(math.MinInt, most), zeros(-most, most), zeros(-1, most), zeros(1<<62, 1<<62), zeros(1<<32, 1), zeros(1<<32+3, 1), zeros(3, 1<<32+1), zeros(65536, 1), zeros(3, 65537),
		{From: 1, Count: most, Data: data(1)}, {From: 0, Count: 1 << 58, Data: nil}, {From: 0, Count: 1<<58 + 1, Data: data(1)}, {From: 9, Count: -1 << 58, Data: nil}, {From: 9, Count: 1 - 1<<58, Data: data(1)},
	} {
		judge(t, of(r), false)
		judge(t, of(zeros(0, 2), r), false)
		judge(t, of(r, zeros(8, 2)), false)
		judge(t, of(filled(0, 5), r, filled(9, 5)), false)
	}
	for _, r := range []api.Record{filled(0, 1), filled(9, 1), filled(8, 1, 2), zeros(0, 1), zeros(9, 1), zeros(8, 2), zeros(0, 10), filled(0, 1, 2, 3, 4, 5, 6, 7, 8, 9, 10)} {
		judge(t, of(r), true)
	}
}

// P16.1: no record begins before the end of the one ahead of it; one that begins there differs from it in Zeros.
func TestGoodOfTwo(t *testing.T) {
	kind := func(zero bool, from, count int) api.Record {
		if zero {
			return zeros(from, count)
		}
		return filled(from, bytes.Repeat([]byte{3}, count)...)
	}
	for _, alike := range []bool{true, false} {
		for _, first := range []bool{true, false} {
			for from := range 10 {
				for count := 1; count <= 10-from; count++ {
					want := from > 4 || from == 4 && !alike
					r := kind(first == alike, from, count)
					judge(t, of(kind(first, 2, 2), r), want)
					judge(t, of(kind(first, 0, 1), kind(first, 2, 2), r), want)
				}
			}
			judge(t, of(kind(first, 1, 1), kind(first == alike, 3, 1)), true)
			judge(t, of(kind(first, 1, 1), kind(first == alike, 2, 1)), !alike)
			judge(t, of(kind(first, 1, 1), kind(first == alike, 1, 1)), false)
			judge(t, of(kind(first, 1, 1), kind(first == alike, 0, 1)), false)
			judge(t, of(kind(first, 5, 1), kind(first == alike, 0, 1)), false)
			judge(t, of(kind(first, 1, 5), kind(first == alike, 3, 1)), false)
			judge(t, of(kind(first, 1, 5), kind(first == alike, 5, 2)), false)
			judge(t, of(kind(first, 3, 2), kind(first == alike, 0, 3)), false)
			judge(t, of(kind(first, 3, 2), kind(first == alike, 3, 2), kind(first, 6, 1)), false)
		}
	}
	for _, s := range []api.Stream{full(), whole()} {
		for i := range s.Records {
			judge(t, edited(s, func(s *api.Stream) { s.Records = slices.Insert(s.Records, i, s.Records[i]) }), false)
			judge(t, edited(s, func(s *api.Stream) { s.Records = append(s.Records, s.Records[i]) }), false)
			for k := range i {
				judge(t, edited(s, func(s *api.Stream) { s.Records[i], s.Records[k] = s.Records[k], s.Records[i] }), false)
			}
		}
	}
}

// P16.1: what counts is the record just ahead: with records of zeros and others in turn, each touching the next one, none has a block to spare.
func TestGoodOfMany(t *testing.T) {
	for n := 1; n <= 64; n++ {
		turns := built(bytes.Repeat([]byte("zd"), 32)[:n], 1, 2)
		judge(t, turns, true)
		turns.Blocks = 64
		judge(t, turns, true)
		judge(t, edited(turns, func(s *api.Stream) { s.Records = append(s.Records, zeros(n, 1)) }), n < 64 && n%2 == 0)
		judge(t, edited(turns, func(s *api.Stream) { s.Records = append(s.Records, filled(n, 4)) }), n < 64 && n%2 == 1)
		judge(t, edited(turns, func(s *api.Stream) { s.Records = append(s.Records, filled(n-1, 4)) }), false)
		judge(t, edited(turns, func(s *api.Stream) { s.Records[n/2].Zeros, s.Records[n/2].Data = true, nil }), n/2%2 == 0)
	}
	judge(t, of(slices.Repeat([]api.Record{zeros(0, 1)}, 70000)...), false)
	judge(t, of(slices.Repeat([]api.Record{zeros(0, 1), filled(1, 1)}, 70000)...), false)
}

// P16.1: a record of zeros has no Data, and is in no stream without a Base.
func TestGoodOfZeros(t *testing.T) {
	for _, base := range []int{-1, 1, 69999} {
		s := api.Stream{Blocks: 10, Base: base, Id: 70000}
		for _, x := range []struct {
			data []byte
			good bool
		}{{nil, true}, {[]byte{}, true}, {data(1)[:0], true}, {[]byte{0}, false}, {[]byte{1}, false}, {data(0), false}, {data(1), false}, {data(0, 0), false}, {data(1, 2), false}, {data(0)[:63], false}} {
			for count := 1; count <= 3; count++ {
				r := zeros(4, count)
				r.Data = x.data
				for _, l := range [][]api.Record{{r}, {r, filled(8, 1)}, {filled(3, 1), r}, {filled(0, 1), r, filled(4+count, 2)}, {filled(1, 1), filled(3, 1), r}} {
					judge(t, edited(s, func(s *api.Stream) { s.Records = l }), x.good && base != -1)
				}
			}
		}
		judge(t, edited(s, func(s *api.Stream) { s.Records = []api.Record{filled(0, 1), filled(2, 1), zeros(9, 1)} }), base != -1)
		judge(t, edited(s, func(s *api.Stream) { s.Records = []api.Record{zeros(0, 1), filled(2, 1)} }), base != -1)
		judge(t, edited(s, func(s *api.Stream) { s.Records = []api.Record{filled(0, 1), filled(2, 1), filled(9, 1)} }), true)
	}
}

// P16.1: a record that is not of zeros has Size bytes for each block, the first, a middle and the last one.
func TestGoodOfDataLength(t *testing.T) {
	for count := 1; count <= 3; count++ {
		for length := range 64*4 + 3 {
			b := bytes.Repeat([]byte{5}, length)
			r := api.Record{From: 3, Count: count, Data: b}
			want := length == 64*count
			judge(t, of(r), want)
			judge(t, of(r, filled(7, 1)), want)
			judge(t, of(filled(0, 1), r, zeros(9, 1)), want)
			judge(t, of(zeros(0, 1), filled(1, 1), r), want)
		}
	}
	for _, s := range []api.Stream{full(), whole()} {
		for i, r := range s.Records {
			if r.Zeros {
				continue
			}
			for _, b := range [][]byte{nil, {}, r.Data[1:], r.Data[:len(r.Data)-1], append(slices.Clone(r.Data), 1), append(slices.Clone(r.Data), 0), append(slices.Clone(r.Data), data(1)...), r.Data[64:]} {
				judge(t, edited(s, func(s *api.Stream) { s.Records[i].Data = b }), false)
			}
			judge(t, edited(s, func(s *api.Stream) { s.Records[i].Data = bytes.Repeat([]byte{9}, 64*r.Count) }), true)
		}
	}
}

// P16.1: no block of a record that is not of zeros consists of zeros only, wherever it is; a byte that is not 0 suffices, wherever that is.
func TestGoodOfZeroBlock(t *testing.T) {
	for count := 1; count <= 4; count++ {
		for block := range count {
			for at := -1; at < 64; at++ {
				b := bytes.Repeat([]byte{5}, 64*count)
				clear(b[64*block : 64*block+64])
				if at >= 0 {
					b[64*block+at] = 1
				}
				r := api.Record{From: 3, Count: count, Data: b}
				judge(t, of(r), at >= 0)
				judge(t, of(r, zeros(7, 1), filled(8, 1)), at >= 0)
				judge(t, of(filled(0, 1), r, filled(8, 1)), at >= 0)
				judge(t, of(filled(0, 1), zeros(2, 1), r), at >= 0)
			}
		}
	}
	for _, s := range []api.Stream{full(), whole()} {
		for i, r := range s.Records {
			for block := 0; block < len(r.Data); block += 64 {
				part := func(s *api.Stream) []byte { return s.Records[i].Data[block : block+64] }
				judge(t, edited(s, func(s *api.Stream) { clear(part(s)) }), false)
				judge(t, edited(s, func(s *api.Stream) { clear(part(s)[1:]) }), true)
				judge(t, edited(s, func(s *api.Stream) { clear(part(s)[:63]) }), true)
			}
		}
	}
	judge(t, of(api.Record{From: 3, Count: 2, Data: single(2, 63)}), false)
	judge(t, of(api.Record{From: 3, Count: 2, Data: single(2, 64)}), false)
}

// P16.1: every list of at most two records about 0 to Blocks - 1 with bytes of all sorts, and of at most three with the bytes that they should have, for each small Blocks. All held against the document's words, and against how many there are: as many as ways to make each block absent, zeros or filled.
func TestGoodOfSmall(t *testing.T) {
	var strange, right []api.Record
	for from := -1; from < 5; from++ {
		for count := -1; count < 5; count++ {
			right = append(right, zeros(from, count), api.Record{From: from, Count: count, Data: bytes.Repeat([]byte{5}, 64*max(count, 0))})
			strange = append(strange, api.Record{From: from, Count: count, Zeros: true, Data: data(5)}, api.Record{From: from, Count: count}, api.Record{From: from, Count: count, Data: data(5, 5, 5)[:65]})
		}
	}
	strange = append(strange, right...)
	hold := func(l []api.Record) [2]int {
		var good [2]int
		for blocks := range 5 {
			for i, base := range []int{-1, 1} {
				s := api.Stream{Blocks: blocks, Base: base, Id: 2, Records: l}
				want := toldGood(s)
				if Good(s) != want {
					t.Fatalf("Good(%v) is %v", brief(s), !want)
				}
				if want {
					good[i]++
				}
			}
		}
		return good
	}
	var good [2]int
	add := func(l []api.Record) {
		n := hold(l)
		good[0], good[1] = good[0]+n[0], good[1]+n[1]
	}
	each(2, strange, func(l []api.Record) { hold(l) })
	for n := range 4 {
		each(n, right, add)
	}
	// Blocks of 1 to 4, each absent or filled, or zeros; of these, "zdzd" and "dzdz" alone need four records.
	if want := [2]int{2 + 4 + 8 + 16, 3 + 9 + 27 + 81 - 2}; good != want {
		t.Errorf("%v are good, not %v", good, want)
	}
}

// P16.1: valid streams with one thing changed, held against the document's words.
func TestGoodOfOneFault(t *testing.T) {
	r := rand.New(rand.NewSource(2))
	l := []api.Stream{full(), whole(), built(bytes.Repeat([]byte("zd"), 32), 1, 2)}
	for range 6 {
		l = append(l, drawn(r, 1+r.Intn(20), -1, 1+r.Intn(9)), drawn(r, 1+r.Intn(20), 1+r.Intn(9), 10+r.Intn(9)))
	}
	good, bad := 0, 0
	for _, s := range l {
		for _, edit := range edits(s) {
			c := edited(s, edit)
			want := toldGood(c)
			if Good(c) != want {
				t.Fatalf("Good(%v) is %v", brief(c), !want)
			}
			if b, e := Encode(c); (e == api.OK) != want || !want && (e != api.ErrForm || len(b) != 0) {
				t.Fatalf("Encode(%v) = %v, %v", brief(c), b, e)
			}
			if want {
				good++
			} else {
				bad++
			}
		}
	}
	if good < 1000 || bad < 1000 {
		t.Errorf("only %d were good, %d not", good, bad)
	}
}

// P16.1: Zero is true of no bytes, and of bytes all of which are 0.
func TestZero(t *testing.T) {
	for _, x := range []struct {
		b    []byte
		want bool
	}{
		{nil, true}, {[]byte{}, true}, {[]byte{1}[:0], true}, {[]byte{0}, true}, {[]byte{1}, false}, {[]byte{128}, false}, {[]byte{255}, false},
		{[]byte{0, 0}, true}, {[]byte{1, 0}, false}, {[]byte{0, 1}, false}, {[]byte{1, 255}, false}, {[]byte{255, 1}, false}, {[]byte{128, 128}, false},
		{[]byte{0, 0, 1}[:2], true}, {[]byte("0"), false}, {data(0), true}, {data(0, 0, 0), true}, {data(0, 1), false}, {data(1, 0), false},
	} {
		if Zero(x.b) != x.want {
			t.Errorf("Zero(%v) is %v", x.b, !x.want)
		}
	}
	for x := range 256 {
		if Zero([]byte{byte(x)}) != (x == 0) || Zero([]byte{byte(x), byte(-x)}) != (x == 0) {
			t.Errorf("Zero of %d", x)
		}
	}
}

// P16.1: Zero of bytes of each length, with one that is not 0 in each place.
func TestZeroOfOneByte(t *testing.T) {
	for n := range 200 {
		b := make([]byte, n)
		if !Zero(b) {
			t.Fatalf("%d bytes of 0", n)
		}
		for i := range b {
			for _, x := range []byte{1, 2, 64, 128, 255} {
				b[i] = x
				if Zero(b) {
					t.Fatalf("%d bytes, the one at %d is %d", n, i, x)
				}
			}
			b[i] = 0
		}
	}
	b := make([]byte, 1<<20)
	if !Zero(b) {
		t.Error("many bytes")
	}
	b[len(b)-1] = 1
	if Zero(b) {
		t.Error("many bytes, the last one is 1")
	}
}
