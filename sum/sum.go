// Package sum is layer 2: a sum of bytes, laid behind them and looked at again. See shared/doc/02-sum.md.
package sum

import (
	"bytes"

	"weathervane/api"
)

// size is how many bytes a sum has; start is the rest ahead of the first byte.
const (
	size  = 4
	start = 0xffffffff
)

// lines has by what four bits that leave the rest at its high end turn it: half bytes, for a line for each byte would be a longer table than the language lets stand.
var lines = [16]uint32{
	0x00000000, 0x04c11db7, 0x09823b6e, 0x0d4326d9,
	0x130476dc, 0x17c56b6b, 0x1a864db2, 0x1e475005,
	0x2608edb8, 0x22c9f00f, 0x2f8ad6d6, 0x2b4bcb61,
	0x350c9b64, 0x31cd86d3, 0x3c8ea00a, 0x384fbdbd,
}

// Of: CRC-32/MPEG-2 of some bytes.
func Of(p []byte) uint32 {
	rest := uint32(start)
	for _, b := range p {
		rest ^= uint32(b) << 24
		rest = rest<<4 ^ lines[rest>>28]
		rest = rest<<4 ^ lines[rest>>28]
	}
	return rest
}

// Seal: bytes, with their sum behind them, the highest byte first.
func Seal(p []byte) []byte {
	sealed := make([]byte, 0, len(p)+size)
	sealed = append(sealed, p...)
	sum := Of(p)
	return append(sealed, byte(sum>>24), byte(sum>>16), byte(sum>>8), byte(sum))
}

// Open: the bytes of which Seal makes these. ErrShort: fewer bytes than a sum has; ErrSum: it is another one.
func Open(p []byte) ([]byte, api.Errno) {
	if len(p) < size {
		return nil, api.ErrShort
	}
	body, seal := p[:len(p)-size], p[len(p)-size:]
	told := uint32(seal[0])<<24 | uint32(seal[1])<<16 | uint32(seal[2])<<8 | uint32(seal[3])
	if Of(body) != told {
		return nil, api.ErrSum
	}
	// A copy: appended to in place, a part of p would write over the sum behind it.
	return bytes.Clone(body), api.OK
}
