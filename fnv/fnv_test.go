package fnv

import (
	"bytes"
	"hash/fnv"
	"math"
	"math/big"
	"testing"
)

// asTold follows the document's words in numbers without a bound, so that nothing of it hangs on wrap-round.
func asTold(h uint64, b []byte) uint64 {
	mod := new(big.Int).Lsh(big.NewInt(1), 64)
	n := new(big.Int).SetUint64(h)
	for _, x := range b {
		low := n.Uint64() % 256
		n.Sub(n, new(big.Int).SetUint64(low))
		n.Add(n, new(big.Int).SetUint64(low^uint64(x)))
		n.Mul(n, big.NewInt(1099511628211))
		n.Mod(n, mod)
	}
	return n.Uint64()
}

// starts are numbers to begin with: 0, the checksum's initial value, the largest number, and some whose bytes differ.
func starts() []uint64 {
	return []uint64{0, 1, 255, 256, 14695981039346656037, 1099511628211, 1 << 63, 1<<63 - 1, 0x0102030405060708, 0xf1e2d3c4b5a69788, math.MaxUint64 - 1, math.MaxUint64}
}

// samples are bytes of several lengths, those with every value and those that repeat one among them.
func samples() [][]byte {
	all := make([]byte, 256)
	mixed := make([]byte, 300)
	for i := range all {
		all[i] = byte(i)
	}
	for i := range mixed {
		mixed[i] = byte(i*i*31 + i*7 + 5)
	}
	return [][]byte{nil, {}, {0}, {1}, {255}, {0, 0}, {255, 255}, {1, 2}, {2, 1}, []byte("a"), []byte("foobar"), make([]byte, 64), bytes.Repeat([]byte{255}, 55), all, mixed}
}

// P2.1: the chapter's example, and numbers that others have published.
func TestCheck(t *testing.T) {
	for _, x := range []struct {
		s    string
		want uint64
	}{
		{"a", 12638187200555641996},
		{"", 14695981039346656037},
		{"b", 0xaf63df4c8601f1a5},
		{"\x00", 0xaf63bd4c8601b7df},
		{"fo", 0x08985907b541d342},
		{"foo", 0xdcb27518fed9d577},
		{"foobar", 0x85944171f73967e8},
		{"chongo was here!\n", 0x46810940eff5f915},
	} {
		if h := Check([]byte(x.s)); h != x.want {
			t.Errorf("Check(%q) = %d, want %d", x.s, h, x.want)
		}
	}
}

// P2.1: no bytes leave what the checksum begins with.
func TestNoBytes(t *testing.T) {
	for _, b := range [][]byte{nil, {}, []byte{1, 2, 3}[:0]} {
		if h := Check(b); h != 14695981039346656037 {
			t.Errorf("Check of no bytes = %d", h)
		}
		for _, start := range starts() {
			if h := More(start, b); h != start {
				t.Errorf("More(%d) of no bytes = %d", start, h)
			}
		}
	}
}

// P2.1: one byte of each value, from every start.
func TestOneByte(t *testing.T) {
	for x := range 256 {
		b := []byte{byte(x)}
		if h, want := Check(b), asTold(14695981039346656037, b); h != want {
			t.Errorf("Check(%v) = %d, want %d", b, h, want)
		}
		for _, start := range starts() {
			if h, want := More(start, b), asTold(start, b); h != want {
				t.Errorf("More(%d, %v) = %d, want %d", start, b, h, want)
			}
		}
	}
}

// P2.1: Check and More of bytes of all kinds, held against the document's words and against the library's checksum.
func TestSamples(t *testing.T) {
	for _, b := range samples() {
		lib := fnv.New64a()
		lib.Write(b)
		if h, want := Check(b), lib.Sum64(); h != want {
			t.Errorf("Check(%v) = %d, want %d", b, h, want)
		}
		for _, start := range starts() {
			if h, want := More(start, b), asTold(start, b); h != want {
				t.Errorf("More(%d, %v) = %d, want %d", start, b, h, want)
			}
		}
	}
}

// P2.1: what More answers where it can be worked out by hand.
func TestMoreByHand(t *testing.T) {
	for _, x := range []struct {
		h    uint64
		b    []byte
		want uint64
	}{
		{0, []byte{0}, 0},
		{0, make([]byte, 1000), 0},
		{0, []byte{1}, 1099511628211},
		{0, []byte{255}, 255 * 1099511628211},
		{5, []byte{5, 0, 0}, 0},
		{1, []byte{3}, 2 * 1099511628211},
		{1 << 63, []byte{0}, 1 << 63},
		{math.MaxUint64, []byte{0}, math.MaxUint64 - 1099511628211 + 1},
		{math.MaxUint64, []byte{254}, math.MaxUint64 - 255*1099511628211 + 1},
		{0x100, []byte{1}, 0x101 * 1099511628211},
	} {
		if h := More(x.h, x.b); h != x.want {
			t.Errorf("More(%d, %v) = %d, want %d", x.h, x.b, h, x.want)
		}
	}
}

// P2.1: More begins where Check begins, and goes on from any place at which the bytes are cut.
func TestCutAtEveryPlace(t *testing.T) {
	for _, b := range samples() {
		whole := Check(b)
		if h := More(14695981039346656037, b); h != whole {
			t.Errorf("More of the initial value = %d, Check = %d: %v", h, whole, b)
		}
		for k := range len(b) + 1 {
			if h := More(Check(b[:k]), b[k:]); h != whole {
				t.Errorf("cut at %d: %d, want %d: %v", k, h, whole, b)
			}
		}
		for _, start := range starts() {
			h := start
			for k := range b {
				h = More(h, b[k:k+1])
			}
			if want := More(start, b); h != want {
				t.Errorf("byte by byte from %d: %d, want %d: %v", start, h, want, b)
			}
		}
	}
}

// P2.2: each byte changed to each other value yields a checksum that the unchanged bytes and the other changes do not have.
func TestOneByteChanged(t *testing.T) {
	for _, src := range samples() {
		b := bytes.Clone(src)
		for i, was := range b {
			seen := map[uint64]int{}
			for x := range 256 {
				b[i] = byte(x)
				h := Check(b)
				if y, ok := seen[h]; ok {
					t.Errorf("byte %d as %d and as %d: both %d", i, y, x, h)
				}
				seen[h] = x
			}
			b[i] = was
		}
	}
}

// P2.2 holds from every start, since each byte turns each h into one of its own.
func TestOneByteChangedFromEachStart(t *testing.T) {
	b := []byte{7, 0, 255, 128, 1, 99, 200, 64}
	for _, start := range starts() {
		want := More(start, b)
		for i, was := range b {
			for x := range 256 {
				b[i] = byte(x)
				if same := More(start, b) == want; same != (b[i] == was) {
					t.Errorf("from %d, byte %d as %d: same checksum: %v", start, i, x, same)
				}
			}
			b[i] = was
		}
	}
}

// The order of bytes counts, and so do zeros at their end.
func TestOrderAndLength(t *testing.T) {
	for _, x := range [][2][]byte{
		{{1, 2}, {2, 1}},
		{{0}, {0, 0}},
		{{}, {0}},
		{{5}, {5, 0}},
		{{5}, {0, 5}},
	} {
		if Check(x[0]) == Check(x[1]) {
			t.Errorf("%v and %v have the same checksum", x[0], x[1])
		}
	}
}

// The bytes behind the end of a slice are no part of it, and nothing is changed.
func TestArgumentStays(t *testing.T) {
	b := []byte("foobarbaz")
	if h := Check(b[:6]); h != 0x85944171f73967e8 {
		t.Error(h)
	}
	if h := More(Check(b[:3]), b[3:6]); h != 0x85944171f73967e8 {
		t.Error(h)
	}
	if string(b) != "foobarbaz" {
		t.Errorf("the argument was changed: %q", b)
	}
}

// A call leaves nothing behind for the next one.
func TestCallsAreApart(t *testing.T) {
	for range 3 {
		if h := Check([]byte("a")); h != 12638187200555641996 {
			t.Error(h)
		}
		More(math.MaxUint64, []byte("foobar"))
	}
}
