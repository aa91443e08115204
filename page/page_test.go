package page

import (
	"bytes"
	"hash/fnv"
	"math"
	"math/rand"
	"slices"
	"testing"

	"revetment/api"
)

// told lays out a marked sector by the document's words, whatever its fields are, with the library's checksum.
func told(mark byte, seq uint32, index uint16, body [48]byte) api.Block {
	var b api.Block
	b[0] = mark
	b[1], b[2], b[3], b[4] = byte(seq), byte(seq>>8), byte(seq>>16), byte(seq>>24)
	b[5], b[6] = byte(index), byte(index>>8)
	copy(b[7:55], body[:])
	return checked(b)
}

// checked returns b with the checksum of its first 55 bytes behind them; its last byte stays.
func checked(b api.Block) api.Block {
	h := fnv.New64a()
	h.Write(b[:55])
	sum := h.Sum64()
	for i := range 8 {
		b[55+i] = byte(sum % 256)
		sum /= 256
	}
	return b
}

// rising returns a body whose bytes differ from each other.
func rising(first byte) [48]byte {
	var body [48]byte
	for i := range body {
		body[i] = first + byte(i)
	}
	return body
}

// samples are sectors at the edges of each field, and some at random.
func samples() []Sector {
	full := [48]byte(bytes.Repeat([]byte{255}, 48))
	var l []Sector
	for _, mark := range []byte{1, 0x30, 0x43, 0x49, 0x53, 128, 255} {
		for _, seq := range []uint32{0, 1, 255, 256, 65536, 1 << 24, 0x01020304, 1 << 31, math.MaxUint32} {
			for _, index := range []int{0, 1, 255, 256, 0x0102, 32768, 65535} {
				for _, body := range [][48]byte{{}, full, rising(1), rising(208)} {
					l = append(l, Sector{Mark: mark, Seq: seq, Index: index, Body: body})
				}
			}
		}
	}
	r := rand.New(rand.NewSource(5))
	for range 500 {
		p := Sector{Mark: byte(1 + r.Intn(255)), Seq: r.Uint32(), Index: r.Intn(65536)}
		r.Read(p.Body[:])
		l = append(l, p)
	}
	return l
}

func encoded(t *testing.T, p Sector) api.Block {
	t.Helper()
	b, e := Encode(p)
	if e != api.OK {
		t.Fatalf("Encode(%v): %v", p, e)
	}
	return b
}

func wantNoSector(t *testing.T, b api.Block, what string) {
	t.Helper()
	if p, e := Decode(b); e != api.ErrForm || p != (Sector{}) {
		t.Errorf("%s: Decode(%v) = %v, %v", what, b, p, e)
	}
}

// P5.1: where each field stands, with a checksum worked out beforehand.
func TestEncodeByHand(t *testing.T) {
	want := api.Block{
		0x49,
		4, 3, 2, 1,
		6, 5,
		1, 2, 3, 4, 5, 6, 7, 8, 9, 10, 11, 12, 13, 14, 15, 16,
		17, 18, 19, 20, 21, 22, 23, 24, 25, 26, 27, 28, 29, 30, 31, 32,
		33, 34, 35, 36, 37, 38, 39, 40, 41, 42, 43, 44, 45, 46, 47, 48,
		0x85, 0x9b, 0xfb, 0x90, 0x2a, 0x0d, 0x2c, 0xb0,
		0,
	}
	p := Sector{Mark: 0x49, Seq: 0x01020304, Index: 0x0506, Body: rising(1)}
	if b := encoded(t, p); b != want {
		t.Errorf("%v, want %v", b, want)
	}
	if q, e := Decode(want); e != api.OK || q != p {
		t.Errorf("%v, %v, want %v", q, e, p)
	}
}

// P5.1: the bytes of many sectors.
func TestEncode(t *testing.T) {
	for _, p := range samples() {
		if b, want := encoded(t, p), told(p.Mark, p.Seq, uint16(p.Index), p.Body); b != want {
			t.Errorf("Encode(%v) = %v, want %v", p, b, want)
		}
	}
}

// P5.1: every mark but 0, and every index of two bytes.
func TestEncodeEachMarkAndIndex(t *testing.T) {
	for mark := 1; mark < 256; mark++ {
		p := Sector{Mark: byte(mark), Seq: 7, Index: 300, Body: rising(9)}
		if b := encoded(t, p); b != told(byte(mark), 7, 300, rising(9)) {
			t.Errorf("mark %d: %v", mark, b)
		}
	}
	for index := range 65536 {
		p := Sector{Mark: 1, Seq: 7, Index: index, Body: rising(9)}
		b := encoded(t, p)
		if b != told(1, 7, uint16(index), rising(9)) {
			t.Fatalf("index %d: %v", index, b)
		}
		if q, e := Decode(b); e != api.OK || q != p {
			t.Fatalf("index %d: %v, %v", index, q, e)
		}
	}
}

// P5.1: what is no marked sector has no bytes.
func TestEncodeWrong(t *testing.T) {
	indices := []int{-1, 65536, -2, 65537, -65536, 131072, math.MinInt32, math.MaxInt32, 1 << 32, -1 << 32, 1<<32 + 5, math.MinInt, math.MaxInt}
	var l []Sector
	for _, seq := range []uint32{0, 1, math.MaxUint32} {
		for _, body := range [][48]byte{{}, rising(1)} {
			for _, index := range indices {
				l = append(l, Sector{Mark: 1, Seq: seq, Index: index, Body: body}, Sector{Mark: 255, Seq: seq, Index: index, Body: body}, Sector{Seq: seq, Index: index, Body: body})
			}
			for _, index := range []int{0, 1, 65535} {
				l = append(l, Sector{Seq: seq, Index: index, Body: body})
			}
		}
	}
	for _, p := range l {
		if b, e := Encode(p); e != api.ErrForm || b != (api.Block{}) {
			t.Errorf("Encode(%v) = %v, %v", p, b, e)
		}
	}
}

// P5.1: Decode of bytes that were laid out by the document's words.
func TestDecode(t *testing.T) {
	for _, p := range samples() {
		if q, e := Decode(told(p.Mark, p.Seq, uint16(p.Index), p.Body)); e != api.OK || q != p {
			t.Errorf("%v, %v, want %v", q, e, p)
		}
	}
}

// P5.1: any 55 bytes that do not begin with 0 are a marked sector's, if their checksum and a 0 come after them, and only then.
func TestDecodeAnyBytes(t *testing.T) {
	r := rand.New(rand.NewSource(6))
	for range 2000 {
		var b api.Block
		r.Read(b[:63])
		b[0] |= 1
		wantNoSector(t, b, "a checksum at random")
		b = checked(b)
		p, e := Decode(b)
		if e != api.OK {
			t.Fatalf("Decode(%v): %v", b, e)
		}
		if again := encoded(t, p); again != b {
			t.Fatalf("%v, was %v", again, b)
		}
	}
}

// P5.1: bytes that are no marked sector's.
func TestDecodeWrong(t *testing.T) {
	var ones api.Block
	for i := range ones {
		ones[i] = 255
	}
	wantNoSector(t, api.Block{}, "zeros")
	wantNoSector(t, ones, "ones")
	wantNoSector(t, api.Block{1}, "a mark alone")
	wantNoSector(t, checked(api.Block{}), "mark 0 with nothing, its checksum right")
	wantNoSector(t, told(0, 5, 6, rising(1)), "mark 0, its checksum right")
	good := told(1, 5, 6, rising(1))
	for x := 1; x < 256; x++ {
		b := good
		b[63] = byte(x)
		wantNoSector(t, b, "the last byte")
	}
	for i := 55; i < 63; i++ {
		for x := 1; x < 256; x++ {
			b := good
			b[i] ^= byte(x)
			wantNoSector(t, b, "the checksum")
		}
	}
	backwards := good
	slices.Reverse(backwards[55:63])
	wantNoSector(t, backwards, "the checksum with its greatest byte first")
	none := good
	clear(none[55:63])
	wantNoSector(t, none, "no checksum")
	for _, part := range [][]byte{good[:0], good[:54], good[1:55], good[7:55]} {
		h := fnv.New64a()
		h.Write(part)
		b := good
		for i := range 8 {
			b[55+i] = byte(h.Sum64() >> (8 * i))
		}
		wantNoSector(t, b, "the checksum of a part only")
	}
}

// P5.3: Decode of the result of Encode returns the sector.
func TestDecodeOfEncode(t *testing.T) {
	for _, p := range samples() {
		if q, e := Decode(encoded(t, p)); e != api.OK || q != p {
			t.Errorf("%v, %v, want %v", q, e, p)
		}
	}
}

// P5.3: each byte changed to each other value yields an error.
func TestOneByteChanged(t *testing.T) {
	for _, p := range []Sector{
		{Mark: 1},
		{Mark: 255, Seq: math.MaxUint32, Index: 65535, Body: [48]byte(bytes.Repeat([]byte{255}, 48))},
		{Mark: 0x49, Seq: 0x01020304, Index: 0x0506, Body: rising(1)},
		{Mark: 0x30, Index: 7, Body: rising(200)},
	} {
		good := encoded(t, p)
		for i := range good {
			for x := 1; x < 256; x++ {
				b := good
				b[i] ^= byte(x)
				wantNoSector(t, b, "one byte changed")
			}
		}
	}
}

// P5.2: the document's example and the edges.
func TestCount(t *testing.T) {
	greatest := math.MaxInt / 48
	if math.MaxInt%48 > 0 {
		greatest++
	}
	for _, x := range []struct{ n, want int }{
		{49, 2},
		{0, 0}, {-1, 0}, {-47, 0}, {-48, 0}, {-49, 0}, {math.MinInt32, 0}, {math.MinInt, 0}, {math.MinInt + 1, 0},
		{1, 1}, {2, 1}, {47, 1}, {48, 1}, {50, 2}, {95, 2}, {96, 2}, {97, 3}, {144, 3}, {145, 4}, {4800, 100}, {4801, 101},
		{math.MaxInt, greatest}, {math.MaxInt - 46, (math.MaxInt-46-1)/48 + 1},
	} {
		if n := Count(x.n); n != x.want {
			t.Errorf("Count(%d) = %d, want %d", x.n, n, x.want)
		}
	}
}

// P5.2: the pieces are the bytes in order, then zeros; there are as many as Count returns.
func TestCut(t *testing.T) {
	if l := Cut(nil); len(l) != 0 {
		t.Errorf("Cut(nil) = %v", l)
	}
	for n := range 500 {
		b := make([]byte, n)
		for i := range b {
			b[i] = byte(i%255) + 1
		}
		l := Cut(b)
		if len(l) != Count(n) || len(l)*48 < n || len(l)*48-n > 47 {
			t.Errorf("%d bytes: %d pieces, Count is %d", n, len(l), Count(n))
		}
		var joined []byte
		for _, piece := range l {
			joined = append(joined, piece[:]...)
		}
		if want := append(b[:n:n], make([]byte, len(joined)-n)...); !bytes.Equal(joined, want) {
			t.Errorf("%d bytes: %v", n, l)
		}
	}
}

// P5.2: the edges by hand.
func TestCutByHand(t *testing.T) {
	first, second := rising(1), rising(49)
	all := slices.Concat(first[:], second[:], []byte{97})
	shorter := first
	shorter[47] = 0
	for n, want := range map[int][][48]byte{
		0:  nil,
		1:  {{1}},
		47: {shorter},
		48: {first},
		49: {first, {49}},
		96: {first, second},
		97: {first, second, {97}},
	} {
		if l := Cut(all[:n]); !slices.Equal(l, want) {
			t.Errorf("%d bytes: %v, want %v", n, l, want)
		}
	}
}

// What Cut is given stays as it was, the bytes behind its end too, which are no part of it.
func TestArgumentStays(t *testing.T) {
	for _, n := range []int{0, 1, 47, 48, 49, 96, 97} {
		b := bytes.Repeat([]byte{7}, 200)
		l := Cut(b[:n])
		if !bytes.Equal(b, bytes.Repeat([]byte{7}, 200)) {
			t.Errorf("%d bytes: the argument was changed: %v", n, b)
		}
		sum := 0
		for _, piece := range l {
			for _, x := range piece {
				sum += int(x)
			}
		}
		if sum != 7*n {
			t.Errorf("%d bytes: %v", n, l)
		}
	}
}

// What Cut returned is the caller's, its spare capacity too.
func TestCutIsNew(t *testing.T) {
	b := bytes.Repeat([]byte{7}, 100)
	one, other := Cut(b), Cut(b)
	want := slices.Clone(other)
	one = one[:cap(one)]
	for i := range one {
		one[i] = [48]byte{1, 2, 3}
	}
	if !slices.Equal(other, want) || !bytes.Equal(b, bytes.Repeat([]byte{7}, 100)) {
		t.Error(other, b)
	}
	clear(b)
	if !slices.Equal(other, want) {
		t.Error(other)
	}
}

// A call leaves nothing behind for the next one, an error neither.
func TestCallsAreApart(t *testing.T) {
	p := Sector{Mark: 0x49, Seq: 3, Index: 4, Body: rising(5)}
	want := told(0x49, 3, 4, rising(5))
	for range 3 {
		if b := encoded(t, p); b != want {
			t.Error(b)
		}
		Encode(Sector{Seq: 9, Body: rising(77)})
		Decode(api.Block{1, 2, 3})
		Cut(want[:])
	}
	if p != (Sector{Mark: 0x49, Seq: 3, Index: 4, Body: rising(5)}) {
		t.Error("the argument was changed:", p)
	}
}
