package stream

import (
	"bytes"
	"slices"
	"testing"

	"revetment/api"
)

// memory returns all of a slice's memory.
func memory[T any](l []T) []T {
	return l[:cap(l)]
}

// roomy returns l in memory of its own, with spare capacity that is filled.
func roomy[T any](l []T, fill ...T) []T {
	return slices.Concat(l, slices.Repeat(fill, 70))[:len(l)]
}

// spare returns s in memory of its own, each of its slices with spare capacity that would change the result, were it seen.
func spare(s api.Stream) api.Stream {
	s = anew(s)
	for i, r := range s.Records {
		s.Records[i].Data = roomy(r.Data, 0, 77)
	}
	s.Records = roomy(s.Records, filled(0, 66), zeros(-1, 0))
	return s
}

// kept returns what s's memory holds, spare capacities included, in new memory.
func kept(s api.Stream) api.Stream {
	s.Records = slices.Clone(memory(s.Records))
	for i, r := range s.Records {
		s.Records[i].Data = slices.Clone(memory(r.Data))
	}
	return s
}

// spoil changes everything in s's memory.
func spoil(s api.Stream) {
	for i, r := range memory(s.Records) {
		spoilBytes(r.Data)
		memory(s.Records)[i] = api.Record{From: -7, Count: -8, Zeros: !r.Zeros, Data: []byte{9}}
	}
}

func spoilBytes(b []byte) {
	for i := range memory(b) {
		memory(b)[i] ^= 0x5a
	}
}

// entwined are valid streams whose records have memory in common.
func entwined() []api.Stream {
	b := data(1, 2, 3, 4)
	return []api.Stream{
		of(api.Record{From: 0, Count: 2, Data: b[:128]}, api.Record{From: 3, Count: 2, Data: b[:128]}, api.Record{From: 6, Count: 3, Data: b[64:]}),
		of(api.Record{From: 0, Count: 1, Data: b[64:128]}, api.Record{From: 1, Count: 1, Zeros: true, Data: b[:0]}, api.Record{From: 2, Count: 2, Data: b[32:160]}),
	}
}

// Good and Encode change no stream that they are given, nor what is behind an end of one of its slices; that is no part of it either.
func TestStreamsStay(t *testing.T) {
	for _, was := range slices.Concat(samples(), anyStreams(), entwined()) {
		s := spare(was)
		before := kept(s)
		if Good(s) != toldGood(was) {
			t.Fatalf("Good(%v) is %v", brief(was), Good(s))
		}
		if !equal(kept(s), before) {
			t.Fatalf("%v: changed by Good", brief(was))
		}
		b, e := Encode(s)
		if toldGood(was) && (e != api.OK || !bytes.Equal(b, toldBytes(was))) || !toldGood(was) && (e != api.ErrForm || len(b) != 0) {
			t.Fatalf("Encode(%v) = %x, %v", brief(was), b, e)
		}
		if !equal(kept(s), before) {
			t.Fatalf("%v: changed by Encode", brief(was))
		}
	}
}

// Records that share memory with each other are as good as others.
func TestEntwined(t *testing.T) {
	for _, s := range entwined() {
		before := kept(s)
		judge(t, s, true)
		if !equal(kept(s), before) {
			t.Errorf("%v: changed", brief(s))
		}
	}
}

// Zero changes no bytes that it is given, nor those behind their end; and those are no part of them.
func TestBytesStay(t *testing.T) {
	for _, was := range [][]byte{nil, {}, {0}, {1}, data(0), data(0, 1), single(2, 0), single(2, 127)} {
		for _, behind := range []byte{0, 1, 255} {
			b := roomy(was, behind)
			before := slices.Clone(memory(b))
			if Zero(b) != (bytes.Count(was, []byte{0}) == len(was)) {
				t.Errorf("Zero(%v) is %v", was, Zero(b))
			}
			if !bytes.Equal(memory(b), before) {
				t.Errorf("%v: changed", was)
			}
		}
	}
}

// What Encode returns is the caller's, its spare capacity too: it is not the argument's, no other call returns it, and none depends on it.
func TestEncodedSharesNothing(t *testing.T) {
	for _, was := range slices.Concat(samples(), entwined()) {
		s := spare(was)
		before := kept(s)
		first, _ := Encode(s)
		second, _ := Encode(s)
		whole := slices.Clone(memory(first))
		spoilBytes(second)
		if !equal(kept(s), before) {
			t.Fatalf("%v: the encoding is the stream's", brief(was))
		}
		if !bytes.Equal(memory(first), whole) {
			t.Fatalf("%v: the encoding is another call's", brief(was))
		}
		if third, e := Encode(s); e != api.OK || !bytes.Equal(third, first) {
			t.Fatalf("%v: another call's encoding is seen", brief(was))
		}
		spoil(s)
		if !bytes.Equal(memory(first), whole) {
			t.Fatalf("%v: the encoding changes with the stream", brief(was))
		}
	}
}

// What is answered does not depend on the calls before.
func TestCallsAreApart(t *testing.T) {
	want := toldBytes(full())
	for _, s := range slices.Concat(samples(), anyStreams()) {
		Good(s)
		Encode(s)
		b, e := Encode(full())
		if !Good(full()) || e != api.OK || !bytes.Equal(b, want) || Good(of(zeros(9, 2))) || !Zero(data(0)) || Zero(data(1)) {
			t.Fatalf("behind %v", brief(s))
		}
	}
}
