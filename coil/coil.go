// Package coil is layer 1: numbers as bytes, and a reader that takes them out again. See shared/doc/01-coil.md.
package coil

import (
	"bytes"
	"math/bits"

	"weathervane/api"
)

// A group is seven bits of a number; goesOn stands in every byte of it but the last one.
const (
	groupBits = 7
	groupMask = 1<<groupBits - 1
	goesOn    = 1 << groupBits
	mostSize  = (64 + groupBits - 1) / groupBits
)

// Put: a number, behind some bytes: groups of seven bits, the highest first; each but the last one has 128 more.
func Put(p []byte, n uint64) []byte {
	var laid [mostSize]byte
	at := mostSize - 1
	laid[at] = byte(n & groupMask)
	for n >>= groupBits; n > 0; n >>= groupBits {
		at--
		laid[at] = byte(n&groupMask) | goesOn
	}
	return append(p, laid[at:]...)
}

// Size: how many bytes that has.
func Size(n uint64) int {
	// 0 has a group, too: one bit is counted for it.
	return (bits.Len64(n|1) + groupBits - 1) / groupBits
}

// Zig: a number that may be below 0 as one that isn't: those near 0 are small.
func Zig(n int64) uint64 {
	// Below 0, -2n - 1 is 2n with all its bits turned; so no number is too low for it.
	return uint64(n)<<1 ^ uint64(n>>63)
}

// Zag: the number of which Zig makes this one.
func Zag(u uint64) int64 {
	return int64(u>>1) ^ -int64(u&1)
}

// Text: bytes, behind others: how many, and they.
func Text(p []byte, s string) []byte {
	return append(Put(p, uint64(len(s))), s...)
}

// Reader takes numbers and bytes out of some, one behind the other; behind the first fault all are 0, or none.
type Reader struct {
	rest  []byte
	fault api.Errno
}

// NewReader: of some bytes. It has a copy of them, for whoever hands them in may write over them.
func NewReader(p []byte) *Reader {
	return &Reader{rest: bytes.Clone(p)}
}

// Fail: there is a fault, if there is none yet.
func (r *Reader) Fail(e api.Errno) {
	if r == nil || r.fault != api.OK || e == api.OK {
		return
	}
	r.fault = e
	// Nothing is read behind a fault: the bytes need not be kept.
	r.rest = nil
}

// Num: the next number, of at most so much. ErrShort: the bytes end within it; ErrForm: Put makes it otherwise; ErrLong: it is greater.
func (r *Reader) Num(most uint64) uint64 {
	if r.Fault() != api.OK {
		return 0
	}
	n, size, e := first(r.rest)
	if e == api.OK && n > most {
		e = api.ErrLong
	}
	if e != api.OK {
		r.Fail(e)
		return 0
	}
	r.rest = r.rest[size:]
	return n
}

// first: the number at the beginning of some bytes, and how many bytes it has.
func first(p []byte) (uint64, int, api.Errno) {
	n := uint64(0)
	for i, b := range p {
		if i == 0 && b == goesOn || bits.Len64(n) > 64-groupBits {
			return 0, 0, api.ErrForm
		}
		n = n<<groupBits | uint64(b&groupMask)
		if b < goesOn {
			return n, i + 1, api.OK
		}
	}
	return 0, 0, api.ErrShort
}

// Int: likewise, as an int; at most 0, if the most is below 0.
func (r *Reader) Int(most int) int {
	return int(r.Num(uint64(max(most, 0))))
}

// Bytes: so many bytes as Int says, at most so many. ErrShort: they aren't all there.
func (r *Reader) Bytes(most int) string {
	n := r.Int(most)
	if n > r.Left() {
		r.Fail(api.ErrShort)
		return ""
	}
	if n == 0 {
		return ""
	}
	s := string(r.rest[:n])
	r.rest = r.rest[n:]
	return s
}

// Left: how many bytes are left.
func (r *Reader) Left() int {
	if r == nil {
		return 0
	}
	return len(r.rest)
}

// Fault: the first fault.
func (r *Reader) Fault() api.Errno {
	if r == nil {
		return api.ErrNone
	}
	return r.fault
}

// End: the first fault; or ErrForm: something is left.
func (r *Reader) End() api.Errno {
	if e := r.Fault(); e != api.OK {
		return e
	}
	if r.Left() > 0 {
		return api.ErrForm
	}
	return api.OK
}
