// Package wire is layer 1: see shared/doc/01-wire.md.
package wire

import (
	"math"
	"strings"

	"tether/api"
)

// The shape of a varint: 64 bits, seven a byte, leave one bit for the tenth byte.
const (
	more     = 0x80 // what every byte but the last one has
	bits     = 7
	lastAt   = 9
	lastMost = 1
)

// Reader reads numbers and texts, one behind the other.
type Reader struct {
	rest string // what wasn't read yet
}

// Uint answers the bytes of a number from 0 on.
func Uint(n int) (string, api.Errno) {
	if n < 0 {
		return "", api.ErrInput
	}
	return varint(uint64(n)), api.OK
}

// Int answers the bytes of any number.
func Int(n int) string {
	return varint(fold(n))
}

// Text answers a text's length and the text.
func Text(s string) string {
	return varint(uint64(len(s))) + s
}

// Join answers all parts, one behind the other.
func Join(parts ...string) string {
	return strings.Join(parts, "")
}

// New answers a reader at the beginning of the bytes.
func New(s string) *Reader {
	return &Reader{rest: s}
}

// Uint reads a number from 0 on.
func (r *Reader) Uint() (int, api.Errno) {
	if r == nil {
		return 0, api.ErrInput
	}
	n, size, e := number(r.rest)
	if e != api.OK {
		return 0, e
	}
	r.rest = r.rest[size:]
	return n, api.OK
}

// Int reads any number.
func (r *Reader) Int() (int, api.Errno) {
	if r == nil {
		return 0, api.ErrInput
	}
	x, size, e := whole(r.rest)
	if e != api.OK {
		return 0, e
	}
	r.rest = r.rest[size:]
	return unfold(x), api.OK
}

// Text reads a text.
func (r *Reader) Text() (string, api.Errno) {
	if r == nil {
		return "", api.ErrInput
	}
	n, size, e := number(r.rest)
	if e != api.OK {
		return "", e
	}
	behind := r.rest[size:]
	// n is held against what is left, not added to size: a sum could wrap round.
	if n > len(behind) {
		return "", api.ErrShort
	}
	r.rest = behind[n:]
	return behind[:n], api.OK
}

// Left answers how many bytes are left.
func (r *Reader) Left() int {
	if r == nil {
		return 0
	}
	return len(r.rest)
}

// Done tells whether nothing is left.
func (r *Reader) Done() api.Errno {
	if r == nil {
		return api.ErrInput
	}
	if r.rest != "" {
		return api.ErrTail
	}
	return api.OK
}

// fold answers 2n, or -2n - 1 of an n below 0. It turns bits over instead of reckoning, since -2n has no room in an int.
func fold(n int) uint64 {
	x := uint64(n) << 1
	if n < 0 {
		return ^x
	}
	return x
}

// unfold answers the number that fold made x of.
func unfold(x uint64) int {
	n := int(x >> 1)
	if x&1 == 1 {
		return ^n
	}
	return n
}

// varint answers the bytes of a whole number.
func varint(x uint64) string {
	var out []byte
	for x >= more {
		out = append(out, byte(x)|more)
		x >>= bits
	}
	return string(append(out, byte(x)))
}

// whole answers the number whose varint stands at the front of s, and how many bytes that has.
func whole(s string) (x uint64, size int, e api.Errno) {
	for i := 0; i < len(s); i++ {
		c := s[i]
		if i == lastAt && c > lastMost {
			return 0, 0, api.ErrForm
		}
		x |= uint64(c&^more) << (bits * i)
		if c >= more {
			continue
		}
		// A 0 at the end adds nothing: the varint isn't the shortest one.
		if c == 0 && i > 0 {
			return 0, 0, api.ErrForm
		}
		return x, i + 1, api.OK
	}
	return 0, 0, api.ErrShort
}

// number is whole for a number from 0 on, which must fit an int.
func number(s string) (n, size int, e api.Errno) {
	x, size, e := whole(s)
	if e != api.OK {
		return 0, 0, e
	}
	if x > math.MaxInt {
		return 0, 0, api.ErrForm
	}
	return int(x), size, api.OK
}
