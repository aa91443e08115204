package le

import (
	"bytes"
	"math"
	"testing"
)

// samples are numbers whose bytes differ from each other, and the edges of each size.
func samples() []uint64 {
	l := []uint64{0, 1, 2, 127, 128, 258, 0x0102030405060708, 0xf1e2d3c4b5a69788, math.MaxInt64, 1 << 63, math.MaxUint64}
	for shift := uint(0); shift < 64; shift++ {
		l = append(l, uint64(1)<<shift, uint64(1)<<shift-1, uint64(0xa5)<<shift)
	}
	return l
}

// P1.1: the least significant byte comes first, and bytes beyond the eighth are 0.
func TestPut(t *testing.T) {
	const n = 0x0102030405060708
	for _, x := range []struct {
		n    uint64
		size int
		want []byte
	}{
		{258, 1, []byte{2}},
		{258, 2, []byte{2, 1}},
		{258, 3, []byte{2, 1, 0}},
		{0, 1, []byte{0}},
		{255, 1, []byte{255}},
		{256, 1, []byte{0}},
		{n, 1, []byte{8}},
		{n, 4, []byte{8, 7, 6, 5}},
		{n, 7, []byte{8, 7, 6, 5, 4, 3, 2}},
		{n, 8, []byte{8, 7, 6, 5, 4, 3, 2, 1}},
		{n, 9, []byte{8, 7, 6, 5, 4, 3, 2, 1, 0}},
		{n, 16, []byte{8, 7, 6, 5, 4, 3, 2, 1, 0, 0, 0, 0, 0, 0, 0, 0}},
		{1 << 63, 8, []byte{0, 0, 0, 0, 0, 0, 0, 128}},
		{math.MaxUint64, 15, []byte{255, 255, 255, 255, 255, 255, 255, 255, 0, 0, 0, 0, 0, 0, 0}},
	} {
		if b := Put(x.n, x.size); !bytes.Equal(b, x.want) {
			t.Errorf("Put(%d, %d) = %v, want %v", x.n, x.size, b, x.want)
		}
	}
}

// P1.1: each byte is the number divided by 256 to the power of its place, modulo 256.
func TestPutEachByte(t *testing.T) {
	for _, n := range samples() {
		for size := 1; size <= 16; size++ {
			b := Put(n, size)
			if len(b) != size {
				t.Fatalf("Put(%d, %d) has %d bytes", n, size, len(b))
			}
			rest := n
			for i, got := range b {
				if got != byte(rest%256) {
					t.Errorf("Put(%d, %d)[%d] = %d, want %d", n, size, i, got, rest%256)
				}
				rest /= 256
			}
		}
	}
}

// P1.1: there are no bytes for sizes below 1 and above 16.
func TestPutWrongSizes(t *testing.T) {
	for _, size := range []int{0, -1, -8, -16, 17, 18, 32, 256, math.MinInt, math.MinInt32, math.MaxInt32, 1 << 32, 1<<32 + 2, math.MaxInt} {
		for _, n := range []uint64{0, 258, math.MaxUint64} {
			if b := Put(n, size); len(b) != 0 {
				t.Errorf("Put(%d, %d) = %v, want none", n, size, b)
			}
		}
	}
}

// P1.1: of more than eight bytes the first eight count, of fewer all, of none none.
func TestGet(t *testing.T) {
	for _, x := range []struct {
		b    []byte
		want uint64
	}{
		{nil, 0},
		{[]byte{}, 0},
		{[]byte{0}, 0},
		{[]byte{7}, 7},
		{[]byte{255}, 255},
		{[]byte{2, 1}, 258},
		{[]byte{1, 2}, 513},
		{[]byte{0, 0, 1}, 65536},
		{[]byte{8, 7, 6, 5, 4, 3, 2}, 0x02030405060708},
		{[]byte{8, 7, 6, 5, 4, 3, 2, 1}, 0x0102030405060708},
		{[]byte{8, 7, 6, 5, 4, 3, 2, 1, 9}, 0x0102030405060708},
		{[]byte{0, 0, 0, 0, 0, 0, 0, 0, 255, 255}, 0},
		{[]byte{0, 0, 0, 0, 0, 0, 0, 128}, 1 << 63},
		{[]byte{0, 0, 0, 0, 0, 0, 0, 0, 128}, 0},
		{bytes.Repeat([]byte{255}, 8), math.MaxUint64},
		{bytes.Repeat([]byte{255}, 1000), math.MaxUint64},
	} {
		if n := Get(x.b); n != x.want {
			t.Errorf("Get(%v) = %d, want %d", x.b, n, x.want)
		}
	}
}

// The bytes behind the end of a slice are no part of it.
func TestGetIgnoresSpareCapacity(t *testing.T) {
	b := []byte{1, 2, 3, 4}
	if n := Get(b[:2]); n != 513 {
		t.Error(n)
	}
	if n := Get(b[:0]); n != 0 {
		t.Error(n)
	}
	if !bytes.Equal(b, []byte{1, 2, 3, 4}) {
		t.Error("the argument was changed:", b)
	}
}

func TestPutAnswersNewMemory(t *testing.T) {
	a, b := Put(258, 2), Put(258, 2)
	for i := range a[:cap(a)] {
		a[:cap(a)][i] = 99
	}
	if !bytes.Equal(b, []byte{2, 1}) || !bytes.Equal(Put(258, 2), []byte{2, 1}) {
		t.Error("results share memory:", b)
	}
}

// P1.2: what is read comes in order, and the reader is after it.
func TestReaderInOrder(t *testing.T) {
	r := NewReader([]byte{1, 2, 3, 4, 5, 6, 7, 8, 9, 10, 11})
	if r.Left() != 11 {
		t.Fatal(r.Left())
	}
	wantNum(t, r, 1, 1, true, 10)
	wantTake(t, r, 2, []byte{2, 3}, true, 8)
	wantNum(t, r, 2, 0x0504, true, 6)
	wantTake(t, r, 1, []byte{6}, true, 5)
	wantNum(t, r, 3, 0x090807, true, 2)
	wantTake(t, r, 2, []byte{10, 11}, true, 0)
}

// P1.2: a size of 0, of Left, above it, and below 0.
func TestReaderSizes(t *testing.T) {
	src := []byte{9, 8, 7, 6, 5}
	wrong := []int{-1, -5, math.MinInt, math.MinInt32, 6, 7, 1 << 32, 1<<32 + 1, math.MaxInt32, math.MaxInt}
	r := NewReader(src)
	for _, size := range wrong {
		wantNum(t, r, size, 0, false, 5)
		wantTake(t, r, size, nil, false, 5)
	}
	wantNum(t, r, 0, 0, true, 5)
	wantTake(t, r, 0, nil, true, 5)
	wantNum(t, r, 5, 0x0506070809, true, 0)

	r = NewReader(src)
	wantTake(t, r, 4, []byte{9, 8, 7, 6}, true, 1)
	wantTake(t, r, 2, nil, false, 1)
	wantNum(t, r, 2, 0, false, 1)
	wantTake(t, r, 1, []byte{5}, true, 0)
}

func TestReaderAtTheEnd(t *testing.T) {
	read := NewReader([]byte{1})
	read.Num(1)
	for _, r := range []*Reader{NewReader(nil), NewReader([]byte{}), read} {
		wantNum(t, r, 0, 0, true, 0)
		wantTake(t, r, 0, nil, true, 0)
		wantNum(t, r, 1, 0, false, 0)
		wantTake(t, r, 1, nil, false, 0)
		wantNum(t, r, -1, 0, false, 0)
		wantTake(t, r, -1, nil, false, 0)
	}
}

// P1.2: Num represents more than eight bytes as Get does, and the reader is after all of them.
func TestReaderMoreThanEightBytes(t *testing.T) {
	r := NewReader([]byte{1, 0, 0, 0, 0, 0, 0, 2, 255, 255, 3, 4})
	wantNum(t, r, 10, 1|2<<56, true, 2)
	wantNum(t, r, 2, 0x0403, true, 0)

	long := bytes.Repeat([]byte{1, 2, 3, 4, 5}, 40)
	r = NewReader(long)
	wantNum(t, r, 50, Get(long), true, 150)
	wantTake(t, r, 150, long[50:], true, 0)
}

// P1.2: a nil reader has no bytes, and not even none can be read from it.
func TestNilReader(t *testing.T) {
	var r *Reader
	for _, size := range []int{0, 1, 8, -1, math.MinInt, math.MaxInt} {
		wantNum(t, r, size, 0, false, 0)
		wantTake(t, r, size, nil, false, 0)
	}
}

func TestReaderSharesNoMemory(t *testing.T) {
	src := []byte{1, 2, 3, 4, 5, 6}
	r := NewReader(src[:4])
	clear(src)
	a, _ := r.Take(2)
	for i := range a[:cap(a)] {
		a[:cap(a)][i] = 99
	}
	b, ok := r.Take(2)
	if !ok || !bytes.Equal(b, []byte{3, 4}) {
		t.Error(b, ok)
	}
	if !bytes.Equal(src, make([]byte, 6)) {
		t.Error("the argument was changed:", src)
	}
}

func TestReadersAreApart(t *testing.T) {
	src := []byte{1, 2, 3}
	a, b := NewReader(src), NewReader(src)
	wantNum(t, a, 2, 0x0201, true, 1)
	wantNum(t, b, 1, 1, true, 2)
	x, _ := b.Take(2)
	clear(x)
	wantNum(t, a, 1, 3, true, 0)
	if !bytes.Equal(src, []byte{1, 2, 3}) {
		t.Error("the argument was changed:", src)
	}
}

// P1.3: what fits comes back, and of what doesn't fit the part that does.
func TestGetOfPut(t *testing.T) {
	for _, n := range samples() {
		for size := 1; size <= 16; size++ {
			want := n
			if size < 8 {
				want = n % (1 << (8 * size))
			}
			b := Put(n, size)
			if got := Get(b); got != want {
				t.Errorf("Get(Put(%d, %d)) = %d, want %d", n, size, got, want)
			}
			wantNum(t, NewReader(b), size, want, true, 0)
		}
	}
}

// A loop over the places may be left early.
func TestPlacesEndEarly(t *testing.T) {
	for _, stop := range []int{0, 3, 7} {
		last := -1
		for i, shift := range places(16) {
			if i != last+1 || shift != uint(8*i) {
				t.Fatal(i, shift)
			}
			last = i
			if i == stop {
				break
			}
		}
		if last != stop {
			t.Error(last, stop)
		}
	}
}

func wantNum(t *testing.T, r *Reader, size int, want uint64, wantOk bool, left int) {
	t.Helper()
	n, ok := r.Num(size)
	if n != want || ok != wantOk || r.Left() != left {
		t.Errorf("Num(%d) = %d %v with %d left, want %d %v with %d", size, n, ok, r.Left(), want, wantOk, left)
	}
}

func wantTake(t *testing.T, r *Reader, size int, want []byte, wantOk bool, left int) {
	t.Helper()
	b, ok := r.Take(size)
	if !bytes.Equal(b, want) || ok != wantOk || r.Left() != left {
		t.Errorf("Take(%d) = %v %v with %d left, want %v %v with %d", size, b, ok, r.Left(), want, wantOk, left)
	}
}
