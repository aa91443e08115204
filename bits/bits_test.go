package bits

import (
	"bytes"
	"math"
	"slices"
	"testing"
)

// toldHas follows the document's words: the byte in which i is, divided by 2 as often as bits are below it, is odd.
func toldHas(b []byte, i int) bool {
	if i < 0 || i >= len(b)*8 {
		return false
	}
	x := b[i/8]
	for range i % 8 {
		x /= 2
	}
	return x%2 == 1
}

// toldAll asks for each number that b has a bit for.
func toldAll(b []byte) []int {
	var l []int
	for i := range len(b) * 8 {
		if toldHas(b, i) {
			l = append(l, i)
		}
	}
	return l
}

// toldSet is a set of so many bytes, its bits summed up from the numbers. They are all different, and less than 8 * size.
func toldSet(size int, l []int) []byte {
	b := make([]byte, size)
	for _, i := range l {
		x := byte(1)
		for range i % 8 {
			x *= 2
		}
		b[i/8] += x
	}
	return b
}

// far are numbers that are in no set of these tests; some come back into one if they wrap round.
func far() []int {
	return []int{math.MinInt, math.MinInt + 1, -1 << 32, math.MinInt32, -4097, -4096, -64, -9, -8, -7, -2, -1, 1 << 30, math.MaxInt32, 1 << 31, 1 << 32, 1<<32 + 8, 1 << 61, 1 << 62, math.MaxInt - 7, math.MaxInt - 1, math.MaxInt}
}

// mixed is so many bytes that differ from each other and do not repeat soon.
func mixed(size int) []byte {
	b := make([]byte, size)
	for i := range b {
		b[i] = byte(i*i*31 + i*7 + 5)
	}
	return b
}

// samples are sets of many lengths: without any number, with all of them, with one at either end, and mixed ones; some are longer than New makes any.
func samples() [][]byte {
	l := [][]byte{nil, {}, []byte{1, 2, 3}[:0]}
	for _, size := range []int{1, 2, 3, 8, 9, 511, 512, 513, 700} {
		first, last := make([]byte, size), make([]byte, size)
		first[0], last[size-1] = 1, 128
		l = append(l, make([]byte, size), bytes.Repeat([]byte{255}, size), first, last, mixed(size))
	}
	for _, x := range []byte{2, 3, 64, 127, 128, 129, 254} {
		l = append(l, []byte{x}, []byte{0, x}, []byte{x, 0}, []byte{255, x}, []byte{x, 1, 0, x, 0, 0})
	}
	return l
}

// about are numbers about every byte's edge and about the end of b, and those that are far.
func about(b []byte) []int {
	l := far()
	for i := -20; i < len(b)*8+40; i++ {
		if m := (i + 24) % 8; len(b) < 10 || i < 20 || i > len(b)*8-20 || m == 7 || m == 0 {
			l = append(l, i)
		}
	}
	return l
}

// shown is the beginning of a set, for what a test tells.
func shown(b []byte) []byte {
	return b[:min(len(b), 10)]
}

// spare returns a copy of b with spare capacity that is filled.
func spare(b []byte) []byte {
	c := append(slices.Clone(b), bytes.Repeat([]byte{0xa5}, 32)...)
	return c[:len(b)]
}

// whole returns all of a slice's memory.
func whole[T any](l []T) []T {
	return l[:cap(l)]
}

// P9.1: the chapter's example.
func TestExample(t *testing.T) {
	if b := With(New(9), 8); !bytes.Equal(b, []byte{0, 1}) {
		t.Error(b)
	}
}

// P9.1: how many bytes a new set has, written out at the edges.
func TestNewSizes(t *testing.T) {
	for _, x := range []struct{ n, size int }{
		{-8, 0}, {-7, 0}, {-1, 0}, {0, 0},
		{1, 1}, {2, 1}, {7, 1}, {8, 1},
		{9, 2}, {15, 2}, {16, 2},
		{17, 3}, {24, 3},
		{63, 8}, {64, 8}, {65, 9},
		{4087, 511}, {4088, 511}, {4089, 512}, {4095, 512}, {4096, 512},
		{4097, 0}, {4104, 0}, {5000, 0}, {8192, 0}, {1 << 20, 0},
	} {
		isEmpty(t, x.n, x.size)
	}
	for _, n := range far() {
		isEmpty(t, n, 0)
	}
}

// P9.1: how many bytes each n has: one more for every eighth number.
func TestNewEachSize(t *testing.T) {
	size := 0
	for n := 1; n <= 4096; n++ {
		if n%8 == 1 {
			size++
		}
		isEmpty(t, n, size)
	}
	for n := 4097; n < 5000; n++ {
		isEmpty(t, n, 0)
		isEmpty(t, 4096-n, 0)
	}
}

// isEmpty checks that New(n) has so many bytes and no number.
func isEmpty(t *testing.T, n, size int) {
	t.Helper()
	b := New(n)
	if !bytes.Equal(b, make([]byte, size)) {
		t.Errorf("New(%d) has %d bytes, want %d: %v", n, len(b), size, shown(b))
	}
	if Count(b) != 0 || len(All(b)) != 0 || Has(b, 0) || Has(b, n-1) || Has(b, n) || !Good(b, n) {
		t.Errorf("New(%d) is not empty", n)
	}
}

// P9.1: sets by hand.
func TestByHand(t *testing.T) {
	for _, x := range []struct {
		b []byte
		l []int
	}{
		{nil, nil},
		{[]byte{}, nil},
		{[]byte{0}, nil},
		{[]byte{0, 0, 0}, nil},
		{[]byte{1}, []int{0}},
		{[]byte{2}, []int{1}},
		{[]byte{128}, []int{7}},
		{[]byte{129}, []int{0, 7}},
		{[]byte{255}, []int{0, 1, 2, 3, 4, 5, 6, 7}},
		{[]byte{0, 1}, []int{8}},
		{[]byte{128, 1}, []int{7, 8}},
		{[]byte{1, 0, 0, 128}, []int{0, 31}},
		{[]byte{0x34, 0x12}, []int{2, 4, 5, 9, 12}},
		{[]byte{255, 255}, []int{0, 1, 2, 3, 4, 5, 6, 7, 8, 9, 10, 11, 12, 13, 14, 15}},
	} {
		if l := All(x.b); !slices.Equal(l, x.l) {
			t.Errorf("All(%v) = %v, want %v", x.b, l, x.l)
		}
		if n := Count(x.b); n != len(x.l) {
			t.Errorf("Count(%v) = %d, want %d", x.b, n, len(x.l))
		}
		for _, i := range about(x.b) {
			if Has(x.b, i) != slices.Contains(x.l, i) {
				t.Errorf("Has(%v, %d) = %v", x.b, i, Has(x.b, i))
			}
		}
		b := make([]byte, len(x.b))
		for _, i := range slices.Backward(x.l) {
			b = With(b, i)
		}
		if !bytes.Equal(b, x.b) {
			t.Errorf("%v put in: %v, want %v", x.l, b, x.b)
		}
	}
}

// P9.1: Has of every sample, held against the document's words.
func TestHas(t *testing.T) {
	for _, b := range samples() {
		for _, i := range about(b) {
			if Has(b, i) != toldHas(b, i) {
				t.Errorf("%d bytes %v: Has(%d) = %v", len(b), shown(b), i, Has(b, i))
			}
		}
	}
}

// P9.1: the set of each number alone, in sets of all sizes at the edges.
func TestEachNumberAlone(t *testing.T) {
	for _, n := range []int{1, 7, 8, 9, 16, 17, 64, 4095, 4096} {
		size := len(New(n))
		for i := range size * 8 {
			b := With(New(n), i)
			if !bytes.Equal(b, toldSet(size, []int{i})) {
				t.Fatalf("With(New(%d), %d) = %v", n, i, b)
			}
			if !Has(b, i) || Has(b, i-1) || Has(b, i+1) || Has(b, i-8) || Has(b, i+8) || Count(b) != 1 || !slices.Equal(All(b), []int{i}) {
				t.Fatalf("With(New(%d), %d): %v", n, i, All(b))
			}
			if Good(b, n) != (i < n) {
				t.Fatalf("With(New(%d), %d): Good is %v", n, i, Good(b, n))
			}
		}
	}
}

// P9.1: With adds one number and nothing else, whatever is in already; a number that b has no bit for is not added, and b does not grow.
func TestWith(t *testing.T) {
	for _, b := range samples() {
		l := toldAll(b)
		for _, i := range about(b) {
			want := b
			if i >= 0 && i < len(b)*8 && !slices.Contains(l, i) {
				want = toldSet(len(b), append(slices.Clone(l), i))
			}
			if c := With(b, i); !bytes.Equal(c, want) {
				t.Errorf("%d bytes %v: With(%d) has %d bytes %v", len(b), shown(b), i, len(c), shown(c))
			}
		}
	}
}

// P9.1: a number that is in already, put in twice or after others, changes nothing.
func TestWithTwice(t *testing.T) {
	for _, n := range []int{1, 8, 9, 64, 4096} {
		for _, i := range []int{0, n / 2, n - 1} {
			once := With(New(n), i)
			if twice := With(once, i); !bytes.Equal(twice, once) || Count(twice) != 1 {
				t.Errorf("New(%d): %d put in twice: %v", n, i, All(twice))
			}
			other := With(With(With(New(n), i), 0), i)
			if !bytes.Equal(other, With(With(New(n), 0), i)) {
				t.Errorf("New(%d): %d put in before and after 0: %v", n, i, All(other))
			}
		}
	}
}

// P9.1: sets filled number by number, downwards, until all are in.
func TestFilled(t *testing.T) {
	for _, n := range []int{1, 7, 8, 9, 64, 500} {
		b := New(n)
		for i := n - 1; i >= 0; i-- {
			b = With(b, i)
			if Count(b) != n-i || All(b)[0] != i || !Good(b, n) {
				t.Errorf("New(%d) with those from %d on: %v", n, i, All(b))
			}
		}
		for i, k := range All(b) {
			if k != i {
				t.Errorf("New(%d) with all: %v", n, All(b))
			}
		}
	}
}

// P9.1, P9.2: All is ascending and has each number once, and Count is its length, held against the document's words.
func TestAllAndCount(t *testing.T) {
	for _, b := range samples() {
		l := All(b)
		if !slices.Equal(l, toldAll(b)) {
			t.Errorf("%d bytes %v: All is %v", len(b), shown(b), l)
		}
		for k := range l {
			if k > 0 && l[k] <= l[k-1] {
				t.Errorf("%d bytes %v: %d behind %d", len(b), shown(b), l[k], l[k-1])
			}
		}
		if Count(b) != len(l) {
			t.Errorf("%d bytes %v: Count is %d, All has %d", len(b), shown(b), Count(b), len(l))
		}
		if !bytes.Equal(toldSet(len(b), l), b) {
			t.Errorf("%d bytes %v: All is %v", len(b), shown(b), l)
		}
	}
}

// P9.1, P9.2: every set of two bytes.
func TestEachSetOfTwoBytes(t *testing.T) {
	for x := range 1 << 16 {
		b := []byte{byte(x), byte(x / 256)}
		l := toldAll(b)
		if !slices.Equal(All(b), l) || Count(b) != len(l) {
			t.Fatalf("%v: All is %v, Count is %d, want %v", b, All(b), Count(b), l)
		}
		for i := -1; i < 17; i++ {
			if Has(b, i) != slices.Contains(l, i) {
				t.Fatalf("%v: Has(%d) is %v", b, i, Has(b, i))
			}
		}
		for n := -1; n < 26; n++ {
			want := n >= 9 && n <= 16 && (len(l) == 0 || l[len(l)-1] < n)
			if Good(b, n) != want {
				t.Fatalf("%v: Good(%d) is %v", b, n, Good(b, n))
			}
		}
	}
}

// P9.1: Or by hand: none of either, one in the other, and sets of different lengths, either one the longer.
func TestOrByHand(t *testing.T) {
	for _, x := range []struct{ a, b, want []byte }{
		{nil, nil, nil},
		{[]byte{}, nil, nil},
		{nil, []byte{5}, []byte{5}},
		{[]byte{5}, nil, []byte{5}},
		{[]byte{0}, []byte{0}, []byte{0}},
		{[]byte{0, 0}, nil, []byte{0, 0}},
		{nil, []byte{0, 0}, []byte{0, 0}},
		{[]byte{3}, []byte{6}, []byte{7}},
		{[]byte{6}, []byte{6}, []byte{6}},
		{[]byte{1, 2}, []byte{4}, []byte{5, 2}},
		{[]byte{4}, []byte{1, 2}, []byte{5, 2}},
		{[]byte{4}, []byte{1, 0, 0}, []byte{5, 0, 0}},
		{[]byte{255, 255}, []byte{1, 2, 3}, []byte{255, 255, 3}},
	} {
		if c := Or(x.a, x.b); !bytes.Equal(c, x.want) {
			t.Errorf("Or(%v, %v) = %v, want %v", x.a, x.b, c, x.want)
		}
	}
}

// P9.1: Or of every byte and every other one.
func TestOrOfEachByte(t *testing.T) {
	for x := range 256 {
		for y := range 256 {
			a, b := []byte{byte(x)}, []byte{byte(y)}
			c := Or(a, b)
			for i := -1; i < 9; i++ {
				if len(c) != 1 || Has(c, i) != (toldHas(a, i) || toldHas(b, i)) {
					t.Fatalf("Or(%v, %v) = %v", a, b, c)
				}
			}
		}
	}
}

// P9.1: Or of all samples: each number of either one is in, no other, and there are as many bytes as the longer one has.
func TestOr(t *testing.T) {
	for _, a := range samples() {
		for _, b := range samples() {
			c := Or(a, b)
			l := slices.Concat(toldAll(a), toldAll(b))
			slices.Sort(l)
			if want := toldSet(max(len(a), len(b)), slices.Compact(l)); !bytes.Equal(c, want) {
				t.Errorf("%d bytes %v, %d bytes %v: Or has %d bytes %v", len(a), shown(a), len(b), shown(b), len(c), shown(c))
			}
		}
	}
}

// P9.1: Good where as many bytes are there as New(n) has, and with one byte too few or too many, for each n.
func TestGoodLengths(t *testing.T) {
	for n := -20; n < 4200; n++ {
		size := len(New(n))
		for _, x := range []int{0, 1, size - 1, size, size + 1, size + 2, 512, 513} {
			if x >= 0 && Good(make([]byte, x), n) != (x == size) {
				t.Errorf("%d bytes: Good(%d) is %v", x, n, x != size)
			}
		}
	}
	for _, n := range far() {
		if !Good(nil, n) || !Good([]byte{}, n) || Good([]byte{0}, n) || Good(make([]byte, 512), n) || Good(mixed(700), n) {
			t.Errorf("Good(%d)", n)
		}
	}
}

// P9.1: Good of each number alone in the last bytes of a set, beside all or none of those that are less than n.
func TestGoodBits(t *testing.T) {
	for n := 1; n <= 4096; n++ {
		none, all := New(n), New(n)
		for i := range n {
			all[i/8] |= 1 << (i % 8)
		}
		if !Good(none, n) || !Good(all, n) {
			t.Errorf("Good(%d) of none or all is false", n)
		}
		for i := max(0, n-9); i < len(all)*8; i++ {
			if one, more := With(none, i), With(all, i); Good(one, n) != (i < n) || Good(more, n) != (i < n) {
				t.Errorf("Good(%d) with %d: %v alone, %v beside all", n, i, Good(one, n), Good(more, n))
			}
		}
	}
}

// P9.1: sets that are longer than New makes any have all functions but Good.
func TestLong(t *testing.T) {
	b := make([]byte, 1<<20)
	last := len(b)*8 - 1
	for _, i := range []int{last, 0, 4096, 5000000} {
		b = With(b, i)
	}
	if l := All(b); !slices.Equal(l, []int{0, 4096, 5000000, last}) || Count(b) != 4 {
		t.Error(l, Count(b))
	}
	if !Has(b, last) || Has(b, last-1) || Has(b, last+1) || !bytes.Equal(With(b, last+1), b) {
		t.Error("the end")
	}
	if c := Or([]byte{6}, b); len(c) != len(b) || !slices.Equal(All(c), []int{0, 1, 2, 4096, 5000000, last}) {
		t.Error(All(c))
	}
	for _, n := range []int{0, 1, 4096, 4097, last + 1, last + 2} {
		if Good(b, n) {
			t.Errorf("Good(%d)", n)
		}
	}
}

// No function changes a set that it is given, nor what is behind its end, and what is behind its end is no part of it.
func TestArgumentsStay(t *testing.T) {
	for _, was := range samples() {
		a, b := spare(was), spare(mixed(9))
		wasA, wasB := slices.Clone(whole(a)), slices.Clone(whole(b))
		for _, i := range about(a) {
			if !bytes.Equal(With(a, i), With(was, i)) || Has(a, i) != Has(was, i) {
				t.Errorf("%d bytes %v: %d", len(was), shown(was), i)
			}
		}
		for _, n := range append(far(), 0, 1, 8, 9, len(was)*8-1, len(was)*8, len(was)*8+1, 4096, 4097) {
			if Good(a, n) != Good(was, n) {
				t.Errorf("%d bytes %v: Good(%d)", len(was), shown(was), n)
			}
		}
		if !slices.Equal(All(a), All(was)) || Count(a) != Count(was) || !bytes.Equal(Or(a, b), Or(was, mixed(9))) || !bytes.Equal(Or(b, a), Or(mixed(9), was)) || !bytes.Equal(Or(a, a), was) {
			t.Errorf("%d bytes %v: All, Count or Or", len(was), shown(was))
		}
		if !bytes.Equal(whole(a), wasA) || !bytes.Equal(whole(b), wasB) {
			t.Errorf("%d bytes %v: changed", len(was), shown(was))
		}
	}
}

// What With and Or return shares no bytes with what they are given, in either direction, spare capacity included.
func TestResultsShareNothing(t *testing.T) {
	for _, was := range samples() {
		calls := []func(a []byte) []byte{
			func(a []byte) []byte { return Or(a, nil) },
			func(a []byte) []byte { return Or(nil, a) },
			func(a []byte) []byte { return Or(a, a) },
			func(a []byte) []byte { return Or(a, []byte{1, 2}) },
			func(a []byte) []byte { return Or([]byte{1, 2}, a) },
			func(a []byte) []byte { return Or(a, make([]byte, 900)) },
			func(a []byte) []byte { return Or(make([]byte, 900), a) },
		}
		for _, i := range []int{0, 7, 8, len(was)*8 - 1, len(was) * 8, -1, math.MaxInt, math.MinInt} {
			calls = append(calls, func(a []byte) []byte { return With(a, i) })
		}
		for k, call := range calls {
			a := spare(was)
			before := slices.Clone(whole(a))
			c := call(a)
			flip(whole(c))
			if !bytes.Equal(whole(a), before) {
				t.Errorf("%d bytes %v, call %d: the result is the argument's", len(was), shown(was), k)
			}
			c, again := call(a), call(a)
			keep, spareKeep := slices.Clone(c), slices.Clone(whole(c))
			flip(whole(again))
			flip(whole(a))
			if !bytes.Equal(c, keep) || !bytes.Equal(whole(c), spareKeep) {
				t.Errorf("%d bytes %v, call %d: the result changes", len(was), shown(was), k)
			}
		}
	}
}

// flip changes every byte.
func flip(b []byte) {
	for i := range b {
		b[i] ^= 255
	}
}

// What New and All return is the caller's, its spare capacity too: a later call has none of it.
func TestNewAndAllAreNew(t *testing.T) {
	for _, n := range []int{0, 1, 8, 9, 64, 4096} {
		a, b := New(n), New(n)
		flip(whole(a))
		if Count(b) != 0 || Count(New(n)) != 0 {
			t.Errorf("New(%d): %v", n, shown(b))
		}
	}
	for _, b := range samples() {
		was := slices.Clone(b)
		l, m := All(b), All(b)
		for i := range whole(l) {
			whole(l)[i] = -5
		}
		if !slices.Equal(m, toldAll(b)) || !slices.Equal(All(b), m) || !bytes.Equal(b, was) {
			t.Errorf("%d bytes %v: %v", len(b), shown(b), m)
		}
		flip(b)
		if !slices.Equal(m, toldAll(was)) {
			t.Errorf("%d bytes %v: All changes", len(b), shown(was))
		}
	}
}

// What is answered of a set does not depend on the calls before.
func TestCallsAreApart(t *testing.T) {
	for _, before := range [][]byte{nil, {255}, mixed(512)} {
		for _, b := range samples() {
			All(before)
			Or(before, b)
			With(before, 3)
			Good(before, 8)
			if l := toldAll(b); !slices.Equal(All(b), l) || Count(b) != len(l) {
				t.Errorf("%d bytes %v", len(b), shown(b))
			}
		}
	}
}

// A loop over the numbers may be left at each of them.
func TestNumbersEndEarly(t *testing.T) {
	b := []byte{0x81, 0, 0xff, 1}
	l := toldAll(b)
	for stop := range l {
		var got []int
		for i := range numbers(b) {
			got = append(got, i)
			if len(got) == stop+1 {
				break
			}
		}
		if !slices.Equal(got, l[:stop+1]) {
			t.Errorf("left after %d: %v", stop+1, got)
		}
	}
}
