package parse

import (
	"bytes"
	"math/rand"
	"testing"

	"revetment/api"
	"revetment/stream"
)

// thereAndBack holds Parse to give back the stream whose encoding it is given.
func thereAndBack(t *testing.T, s api.Stream) {
	t.Helper()
	b, e := stream.Encode(s)
	if e != api.OK {
		t.Fatalf("Encode(%v): %v", brief(s), e)
	}
	if got, e := Parse(b); e != api.OK || !equal(got, s) {
		t.Fatalf("Parse of the encoding of %v: %v, %v", brief(s), brief(got), e)
	}
}

// encoded holds what Parse takes of these bytes to be what Encode returns for it, and reports whether it takes them.
func encoded(t *testing.T, b []byte) bool {
	t.Helper()
	_, want := toldParse(b)
	hold(t, b, want)
	s, e := Parse(b)
	if e != api.OK {
		return false
	}
	if again, e := stream.Encode(s); e != api.OK || !stream.Good(s) || !bytes.Equal(again, b) {
		t.Fatalf("%s is taken; the encoding of %v is %s, %v", short(b), brief(s), short(again), e)
	}
	return true
}

// P17.2: Parse of the result of stream.Encode returns the stream.
func TestBack(t *testing.T) {
	for _, s := range append(few(), samples()...) {
		thereAndBack(t, s)
		if !encoded(t, toldBytes(s)) {
			t.Errorf("%v is not taken", brief(s))
		}
	}
}

// P17.2: all valid streams of at most five blocks, each of which is absent, zeros, or filled with one of two bytes, and with some Bases and Ids.
func TestBackOfAllSmall(t *testing.T) {
	for blocks := 1; blocks <= 5; blocks++ {
		for _, x := range [][2]int{{-1, 1}, {-1, 1000000}, {1, 2}, {999999, 1000000}} {
			kinds := []byte("ndD")
			if x[0] != -1 {
				kinds = []byte("ndDz")
			}
			each(blocks, kinds, func(l []byte) { thereAndBack(t, built(l, x[0], x[1])) })
		}
	}
}

// P17.2: one record of each From and each Count, of both kinds.
func TestBackOfEachRecord(t *testing.T) {
	for from := range 64 {
		for count := 1; count <= 64-from; count++ {
			thereAndBack(t, api.Stream{Blocks: 64, Base: 1, Id: 2, Records: []api.Record{zeros(from, count)}})
			if count%7 == 1 || from+count == 64 {
				thereAndBack(t, api.Stream{Blocks: 64, Base: -1, Id: 2, Records: []api.Record{filled(from, bytes.Repeat([]byte{byte(from + 1)}, count)...)}})
			}
		}
	}
}

// P17.2: streams drawn by luck, with many of their bytes 0.
func TestBackOfMany(t *testing.T) {
	r := rand.New(rand.NewSource(3))
	for range 1000 {
		id := 2 + r.Intn(999999)
		thereAndBack(t, drawn(r, 1+r.Intn(64), -1, id))
		thereAndBack(t, drawn(r, 1+r.Intn(64), 1+r.Intn(id-1), id))
	}
}

// stir changes something in a draft by luck; the checksums stay right.
func stir(r *rand.Rand, d *draft) {
	near := func(n int) int { return max(0, n+r.Intn(3)-1) }
	switch r.Intn(8) {
	case 0:
		d.blocks = near(d.blocks)
	case 1:
		d.next = near(d.next)
	case 2:
		d.id = near(d.id)
	case 3:
		d.count = near(d.count)
	default:
		if len(d.records) > 0 {
			stirPiece(r, &d.records[r.Intn(len(d.records))])
		}
	}
}

func stirPiece(r *rand.Rand, p *piece) {
	switch r.Intn(6) {
	case 0:
		p.mark = byte(1 + r.Intn(2))
	case 1, 2:
		p.from = max(0, p.from+r.Intn(3)-1)
	case 3:
		p.count = max(0, p.count+r.Intn(3)-1)
	case 4:
		p.mark, p.data = 3-p.mark, data(byte(r.Intn(2)))[:64*r.Intn(2)]
	default:
		if len(p.data) > 0 {
			p.data[r.Intn(len(p.data))] = byte(r.Intn(256))
		}
	}
}

// P17.1, P17.2: bytes with right checksums, of streams with something changed in them: many are taken, many are not.
func TestStirred(t *testing.T) {
	r := rand.New(rand.NewSource(4))
	taken, left := 0, 0
	for range 4000 {
		id := 2 + r.Intn(3)
		d := drafted(drawn(r, 1+r.Intn(9), 1+r.Intn(id-1), id))
		if encoded(t, d.changed(func(d *draft) { stir(r, d) }, func(d *draft) { stir(r, d) })) {
			taken++
		} else {
			left++
		}
	}
	if taken < 1000 || left < 1000 {
		t.Errorf("%d were taken, %d were not", taken, left)
	}
}

// P17.1: bytes of all kinds, drawn by luck.
func TestAnyBytes(t *testing.T) {
	r := rand.New(rand.NewSource(6))
	for i := range 3000 {
		b := make([]byte, r.Intn(300))
		r.Read(b)
		if i%2 == 0 {
			b = append([]byte("RVS1"), b...)
		}
		if i%3 == 0 {
			b = append(drafted(full()).head(), b...)
		}
		encoded(t, b)
	}
}

// P17.2: two of the same number of bytes with parts of each other: a record of one stream in place of that of another, with and without the right end.
func TestParts(t *testing.T) {
	a, b := drafted(of(filled(1, 3), zeros(2, 2), filled(5, 1, 2))), drafted(of(filled(0, 4), zeros(3, 1), filled(7, 5, 6)))
	for i := range 3 {
		for k := range 3 {
			mix := a.changed(func(d *draft) { d.records[i] = b.records[k] })
			encoded(t, mix)
			if len(mix) == len(a.bytes()) {
				copy(mix[len(mix)-8:], a.bytes()[len(mix)-8:])
				hold(t, mix, toldError(mix))
			}
		}
	}
	head := toldBytes(api.Stream{Blocks: 10, Base: 1, Id: 3, Records: of(filled(4, 3)).Records})[:24]
	rest := toldBytes(of(filled(4, 3)))[24:]
	hold(t, append(head, rest...), api.ErrCheck) // each part is right, but the end is of another head
}

// toldError is the error of b, by the document's words.
func toldError(b []byte) api.Errno {
	_, e := toldParse(b)
	return e
}
