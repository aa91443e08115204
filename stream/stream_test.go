package stream

import (
	"bytes"
	"encoding/binary"
	"encoding/hex"
	"math/rand"
	"slices"
	"testing"

	"revetment/api"
)

// coded returns the encoding of s.
func coded(t *testing.T, s api.Stream) []byte {
	t.Helper()
	b, e := Encode(s)
	if e != api.OK {
		t.Fatalf("Encode(%v): %v", brief(s), e)
	}
	return b
}

// P16.1: the chapter's example: 33 bytes, whatever the head has.
func TestExample(t *testing.T) {
	for _, s := range heads() {
		if b := coded(t, s); len(b) != 33 {
			t.Errorf("%v: %d bytes", brief(s), len(b))
		}
	}
}

// P16.1: an encoding written out, with the checksums as the library has them.
func TestBytesByHand(t *testing.T) {
	s := api.Stream{Blocks: 10, Base: 0x030201, Id: 0x060504, Records: []api.Record{filled(0, 7), zeros(2, 3), filled(5, 8, 9)}}
	parts := []string{
		"52565331" + "0a00" + "02020300" + "04050600" + "0300",
		"01" + "0000" + "0100",
		"02" + "0200" + "0300",
		"01" + "0500" + "0200",
	}
	var want []byte
	for i, part := range parts {
		b, _ := hex.DecodeString(part)
		if i > 0 {
			b = append(b, s.Records[i-1].Data...)
		}
		want = slices.Concat(want, b, toldCheck(b))
	}
	want = slices.Concat(want, []byte{0x45}, toldCheck(want))
	if b := coded(t, s); !bytes.Equal(b, want) {
		t.Errorf("%x, not %x", b, want)
	}
}

// P16.1: the shortest encoding, its checksums written out too.
func TestShortestBytes(t *testing.T) {
	const want = "52565331" + "0100" + "00000000" + "01000000" + "0000" + "55120e306818c7a9" + "45" + "bcca679ddda41c4c"
	if b := coded(t, api.Stream{Blocks: 1, Base: -1, Id: 1}); hex.EncodeToString(b) != want {
		t.Errorf("%x", b)
	}
}

// P16.1: all samples, laid out by the document's words.
func TestBytes(t *testing.T) {
	for _, s := range samples() {
		if b := coded(t, s); !bytes.Equal(b, toldBytes(s)) {
			t.Errorf("%v: %x", brief(s), b)
		}
	}
}

// P16.1: each number of the head is at its place, its lowest byte first.
func TestHead(t *testing.T) {
	for _, s := range samples() {
		b := coded(t, s)
		if string(b[:4]) != "RVS1" {
			t.Errorf("%v: %x", brief(s), b[:4])
		}
		if n := binary.LittleEndian.Uint16(b[4:]); int(n) != s.Blocks {
			t.Errorf("%v: Blocks are %d", brief(s), n)
		}
		if n := binary.LittleEndian.Uint32(b[6:]); int(n) != s.Base+1 {
			t.Errorf("%v: Base plus 1 is %d", brief(s), n)
		}
		if n := binary.LittleEndian.Uint32(b[10:]); int(n) != s.Id {
			t.Errorf("%v: Id is %d", brief(s), n)
		}
		if n := binary.LittleEndian.Uint16(b[14:]); int(n) != len(s.Records) {
			t.Errorf("%v: there are %d records", brief(s), n)
		}
		if !bytes.Equal(b[16:24], toldCheck(b[:16])) {
			t.Errorf("%v: the checksum of the head", brief(s))
		}
	}
}

// P16.1: the greatest numbers of the head.
func TestGreatestHead(t *testing.T) {
	b := coded(t, api.Stream{Blocks: 64, Base: 999999, Id: 1000000})
	if want := "52565331" + "4000" + "40420f00" + "40420f00" + "0000"; hex.EncodeToString(b[:16]) != want {
		t.Errorf("%x", b)
	}
	b = coded(t, built(bytes.Repeat([]byte("dz"), 32), 999998, 1000000))
	if want := "52565331" + "4000" + "3f420f00" + "40420f00" + "4000"; hex.EncodeToString(b[:16]) != want {
		t.Errorf("%x", b)
	}
}

// P16.1: each record is at its place, with its mark, its numbers, its bytes and its checksum, and behind them nothing but 45 and the checksum of all.
func TestRecords(t *testing.T) {
	for _, s := range samples() {
		b := coded(t, s)
		at := 24
		for i, r := range s.Records {
			own := b[at : at+5+len(r.Data)]
			mark := byte(1)
			if r.Zeros {
				mark = 2
			}
			if own[0] != mark || int(binary.LittleEndian.Uint16(own[1:])) != r.From || int(binary.LittleEndian.Uint16(own[3:])) != r.Count || !bytes.Equal(own[5:], r.Data) {
				t.Errorf("%v: record %d is %x", brief(s), i, own)
			}
			at += len(own) + 8
			if !bytes.Equal(b[at-8:at], toldCheck(own)) {
				t.Errorf("%v: the checksum of record %d", brief(s), i)
			}
		}
		if len(b) != at+9 || b[at] != 0x45 || !bytes.Equal(b[at+1:], toldCheck(b[:at])) {
			t.Errorf("%v: the end is %x", brief(s), b[at:])
		}
	}
}

// P16.1: records of each From and each Count, of both kinds.
func TestEachRecord(t *testing.T) {
	for from := range 64 {
		for count := 1; count <= 64-from; count++ {
			for _, r := range []api.Record{zeros(from, count), filled(from, bytes.Repeat([]byte{byte(from + 1)}, count)...)} {
				s := api.Stream{Blocks: 64, Base: 1, Id: 2, Records: []api.Record{r}}
				if b := coded(t, s); !bytes.Equal(b, toldBytes(s)) || len(b) != 46+len(r.Data) {
					t.Fatalf("%v: %x", brief(s), b)
				}
			}
		}
	}
}

// P16.1: a stream that is not valid has no encoding; its error is ErrForm.
func TestErrForm(t *testing.T) {
	bad := 0
	for _, s := range anyStreams() {
		b, e := Encode(s)
		if toldGood(s) {
			continue
		}
		bad++
		if e != api.ErrForm || len(b) != 0 {
			t.Errorf("Encode(%v) = %x, %v", brief(s), b, e)
		}
	}
	if bad < 1000 {
		t.Errorf("only %d were not valid", bad)
	}
}

// P16.2: no two of the samples are equal, and no two have the same encoding; equal ones have the same.
func TestEncodingsDiffer(t *testing.T) {
	l := samples()
	var codes [][]byte
	for _, s := range l {
		codes = append(codes, coded(t, s))
	}
	for i, b := range codes {
		for k, other := range codes {
			if bytes.Equal(b, other) != equal(l[i], l[k]) {
				t.Fatalf("%v and %v", brief(l[i]), brief(l[k]))
			}
		}
		if !bytes.Equal(b, coded(t, anew(l[i]))) {
			t.Errorf("%v, anew", brief(l[i]))
		}
	}
}

// P16.2: streams that differ in one thing.
func TestEncodingsOfOneChange(t *testing.T) {
	good := 0
	for _, s := range []api.Stream{full(), whole(), of(zeros(2, 3)), of(filled(2, 3, 4)), {Blocks: 1, Base: -1, Id: 1}, {Blocks: 64, Base: 999999, Id: 1000000}} {
		b := coded(t, s)
		for _, edit := range edits(s) {
			c := edited(s, edit)
			if !Good(c) {
				continue
			}
			good++
			if bytes.Equal(coded(t, c), b) != equal(s, c) {
				t.Fatalf("%v and %v", brief(s), brief(c))
			}
		}
	}
	if good < 1000 {
		t.Errorf("only %d were valid", good)
	}
}

// P16.2: streams that differ in one byte of one block alone: each byte, and each value of some.
func TestEncodingsOfOneByte(t *testing.T) {
	s := of(filled(1, 7), zeros(2, 1), filled(3, 8, 9))
	found := map[string]bool{string(coded(t, s)): true}
	n := 1
	for i, r := range s.Records {
		for at := range r.Data {
			for x := range 256 {
				if x == int(r.Data[at]) || at%16 != 0 && x%50 != 0 {
					continue
				}
				found[string(coded(t, edited(s, func(s *api.Stream) { s.Records[i].Data[at] = byte(x) })))] = true
				n++
			}
		}
	}
	if n < 3000 || len(found) != n {
		t.Errorf("%d streams have %d encodings", n, len(found))
	}
}

// P16.2: all valid streams of at most five blocks, each of which is absent, zeros, or filled with one of two bytes, and with some Bases and Ids.
func TestEncodingsOfAllSmall(t *testing.T) {
	found := map[string]bool{}
	n := 0
	for blocks := 1; blocks <= 5; blocks++ {
		for _, x := range [][2]int{{-1, 1}, {-1, 2}, {1, 2}, {1, 257}, {256, 257}} {
			kinds := []byte("ndD")
			if x[0] != -1 {
				kinds = []byte("ndDz")
			}
			each(blocks, kinds, func(l []byte) {
				b := coded(t, built(l, x[0], x[1]))
				if !bytes.Equal(b, coded(t, built(l, x[0], x[1]))) {
					t.Fatalf("%s: two encodings", l)
				}
				found[string(b)] = true
				n++
			})
		}
	}
	if len(found) != n {
		t.Errorf("%d streams have %d encodings", n, len(found))
	}
}

// P16.2: no slices and empty ones are equal, so that the encoding is the same.
func TestNilAndEmpty(t *testing.T) {
	for _, s := range samples() {
		b := coded(t, s)
		c := anew(s)
		if len(c.Records) == 0 {
			c.Records = nil
			if !bytes.Equal(coded(t, c), b) {
				t.Errorf("%v: nil", brief(s))
			}
			c.Records = full().Records[:0]
		}
		for _, none := range [][]byte{nil, {}, data(4)[:0]} {
			for i, r := range c.Records {
				if r.Zeros {
					c.Records[i].Data = none
				}
			}
			if !Good(c) || !bytes.Equal(coded(t, c), b) {
				t.Errorf("%v: empty", brief(s))
			}
		}
	}
}

// P16.2: many pairs drawn by luck: each two of a few streams about one another.
func TestEncodingsOfPairs(t *testing.T) {
	r := rand.New(rand.NewSource(5))
	same, unlike := 0, 0
	for range 3000 {
		blocks, id := 1+r.Intn(3), 2+r.Intn(2)
		draw := func() api.Stream {
			l := make([]byte, blocks)
			for i := range l {
				l[i] = "nzdD"[r.Intn(4)]
			}
			return built(l, 1+r.Intn(id-1), id)
		}
		a, b := draw(), draw()
		if bytes.Equal(coded(t, a), coded(t, b)) != equal(a, b) {
			t.Fatalf("%v and %v", brief(a), brief(b))
		}
		if equal(a, b) {
			same++
		} else {
			unlike++
		}
	}
	if same < 100 || unlike < 100 {
		t.Errorf("%d pairs were equal, %d not", same, unlike)
	}
}
