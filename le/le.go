// Package le encodes numbers as bytes, the least significant byte first.
package le

import "iter"

const (
	maxSize  = 16 // the most bytes that a number is written with
	numBytes = 8  // bytes that a uint64 can fill
)

// Reader reads bytes one after the other.
type Reader struct {
	rest []byte // what has not been read yet
}

// Put returns the size least significant bytes of n; there are none for a size that is not in the range 1 to 16.
func Put(n uint64, size int) []byte {
	if size < 1 || size > maxSize {
		return nil
	}
	b := make([]byte, size)
	for i, shift := range places(size) {
		b[i] = byte(n >> shift)
	}
	return b
}

// Get returns the number that the first eight bytes of b represent, or all of them if there are fewer.
func Get(b []byte) uint64 {
	var n uint64
	for i, shift := range places(len(b)) {
		n |= uint64(b[i]) << shift
	}
	return n
}

// places visits the bytes of a number that are among the first size ones, each with its shift in the number.
// It ends after the eighth byte, since those beyond it have no place in a uint64.
func places(size int) iter.Seq2[int, uint] {
	return func(yield func(int, uint) bool) {
		for i := range min(size, numBytes) {
			if !yield(i, uint(8*i)) {
				return
			}
		}
	}
}

// NewReader returns a reader at the beginning of b. It reads from a copy: the caller may change b afterwards.
func NewReader(b []byte) *Reader {
	rest := make([]byte, len(b))
	copy(rest, b)
	return &Reader{rest: rest}
}

// Num reads the next size bytes and returns the number that they represent, as Get does.
func (r *Reader) Num(size int) (uint64, bool) {
	b, ok := r.next(size)
	return Get(b), ok
}

// Take reads the next size bytes and returns a copy of them.
func (r *Reader) Take(size int) ([]byte, bool) {
	b, ok := r.next(size)
	if !ok {
		return nil, false
	}
	taken := make([]byte, size)
	copy(taken, b)
	return taken, true
}

// Left returns the number of bytes that are left.
func (r *Reader) Left() int {
	if r == nil {
		return 0
	}
	return len(r.rest)
}

// next moves the reader past size bytes. What it returns is the reader's own memory and is not handed out.
func (r *Reader) next(size int) ([]byte, bool) {
	if r == nil || size < 0 || size > len(r.rest) {
		return nil, false
	}
	b := r.rest[:size]
	r.rest = r.rest[size:]
	return b, true
}
