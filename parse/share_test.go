package parse

import (
	"bytes"
	"slices"
	"testing"

	"revetment/api"
)

// memory returns all of a slice's memory.
func memory[T any](l []T) []T {
	return l[:cap(l)]
}

// roomy returns b in memory of its own, with spare capacity that holds what follows.
func roomy(b, behind []byte) []byte {
	return slices.Concat(b, behind)[:len(b)]
}

// spoil changes everything in s's memory.
func spoil(s api.Stream) {
	for i, r := range memory(s.Records) {
		for k := range memory(r.Data) {
			memory(r.Data)[k] ^= 0x5a
		}
		memory(s.Records)[i] = api.Record{From: -7, Count: -8, Zeros: !r.Zeros, Data: []byte{9}}
	}
}

// inputs are bytes of all sorts: encodings, those cut short, and those with something wrong.
func inputs() [][]byte {
	out := [][]byte{nil, {}, []byte("RVS"), []byte("RVX1")}
	for _, s := range append(few(), mixed()...) {
		out = append(out, toldBytes(s))
		for i, x := range flaws(s) {
			if i%5 == 0 || x.e != api.ErrShort {
				out = append(out, drafted(s).changed(x.make))
			}
		}
	}
	return out
}

// Parse changes no bytes that it is given, nor those behind their end; and those are no part of them.
func TestBytesStay(t *testing.T) {
	for _, was := range inputs() {
		want, e := toldParse(was)
		whole := toldBytes(full())
		for _, behind := range [][]byte{make([]byte, 99), whole, whole[min(len(was), len(whole)):], {0x45}} {
			b := roomy(was, behind)
			before := slices.Clone(memory(b))
			s, f := Parse(b)
			if f != e || !equal(s, want) {
				t.Fatalf("Parse(%s): %v, %v", short(was), brief(s), f)
			}
			if !bytes.Equal(memory(b), before) {
				t.Fatalf("%s: changed", short(was))
			}
		}
	}
}

// What Parse returns shares no memory with the bytes, nor with what another call returns, and no two of its records share any.
func TestParsedSharesNothing(t *testing.T) {
	for _, s := range append(few(), samples()...) {
		b := toldBytes(s)
		got, _ := Parse(b)
		again, _ := Parse(b)
		before := slices.Clone(b)
		spoil(again)
		if !bytes.Equal(b, before) || !equal(got, s) {
			t.Fatalf("%v: a result is the bytes', or another call's", brief(s))
		}
		for i := range b {
			b[i] ^= 0xa5
		}
		if !equal(got, s) {
			t.Fatalf("%v: changes with the bytes", brief(s))
		}
		for i := range got.Records {
			r := got.Records[i]
			for k := range memory(r.Data) {
				memory(r.Data)[k] ^= 0x5a
			}
			for k := range r.Data {
				r.Data[k] ^= 0x5a
			}
			clear(memory(r.Data)[len(r.Data):])
			if !equal(got, s) {
				t.Fatalf("%v: record %d shares its Data", brief(s), i)
			}
		}
	}
}

// A record may be appended to, and its Data too, without a change to another one.
func TestParsedGrows(t *testing.T) {
	for _, s := range append(few(), samples()...) {
		got, _ := Parse(toldBytes(s))
		for _, r := range got.Records {
			_ = append(r.Data, data(1, 2, 3)...)
		}
		_ = append(got.Records, zeros(1, 1))
		if !equal(got, s) {
			t.Fatalf("%v: grown into", brief(s))
		}
	}
}

// What is answered does not depend on the calls before.
func TestCallsAreApart(t *testing.T) {
	for _, b := range inputs() {
		s, _ := Parse(b)
		spoil(s)
		got, e := Parse(toldBytes(full()))
		if e != api.OK || !equal(got, full()) {
			t.Fatalf("behind %s: %v, %v", short(b), brief(got), e)
		}
		if _, e := Parse([]byte("RVX1")); e != api.ErrMagic {
			t.Fatalf("behind %s: %v", short(b), e)
		}
	}
}
