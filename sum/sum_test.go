package sum

import (
	"bytes"
	"testing"

	"weathervane/api"
)

// bitByBit is P2.1's rule as it stands there.
func bitByBit(p []byte) uint32 {
	rest := uint32(0xffffffff)
	for _, b := range p {
		for i := 7; i >= 0; i-- {
			differs := rest>>31 != uint32(b>>i&1)
			rest *= 2
			if differs {
				rest ^= 0x04c11db7
			}
		}
	}
	return rest
}

// P2.1: known sums.
func TestOfKnown(t *testing.T) {
	for s, want := range map[string]uint32{
		"":                 0xffffffff,
		"123456789":        0x0376e6e7,
		"\x00":             0x4e08bfb4,
		"\xff\xff\xff\xff": 0x00000000,
	} {
		if got := Of([]byte(s)); got != want {
			t.Errorf("Of(%x) = %08x, want %08x", s, got, want)
		}
	}
}

// P2.1: every byte, at each place, is summed as the rule says.
func TestOfIsTheRule(t *testing.T) {
	for b := range 256 {
		for _, p := range [][]byte{{byte(b)}, {byte(b), 0}, {0x5a, byte(b)}, {0xff, 0, byte(b), 0x80, 1}} {
			if got, want := Of(p), bitByBit(p); got != want {
				t.Errorf("Of(%x) = %08x, want %08x", p, got, want)
			}
		}
	}
	long := make([]byte, 0, 1000)
	for i := range 1000 {
		long = append(long, byte(i*i+i>>3))
		if got, want := Of(long), bitByBit(long); got != want {
			t.Fatalf("of %d bytes: %08x, want %08x", len(long), got, want)
		}
	}
}

// P2.1: the sum stands behind the bytes, the highest byte first.
func TestSeal(t *testing.T) {
	for s, want := range map[string]string{
		"":                 "\xff\xff\xff\xff",
		"123456789":        "123456789\x03\x76\xe6\xe7",
		"\xff\xff\xff\xff": "\xff\xff\xff\xff\x00\x00\x00\x00",
	} {
		if got := Seal([]byte(s)); string(got) != want {
			t.Errorf("Seal(%x) = %x, want %x", s, got, want)
		}
	}
	if got := Seal(nil); string(got) != "\xff\xff\xff\xff" {
		t.Errorf("Seal(nil) = %x", got)
	}
}

// P2.1: what is sealed is opened.
func TestOpenSealed(t *testing.T) {
	for n := range 300 {
		p := bytes.Repeat([]byte{byte(n), 0x80}, n)
		got, e := Open(Seal(p))
		if e != api.OK || !bytes.Equal(got, p) {
			t.Fatalf("of %d bytes: %x, %d", len(p), got, e)
		}
	}
}

// P2.1: fewer than four bytes are short, whatever they are; beside an error there is no list.
func TestOpenShort(t *testing.T) {
	for _, p := range [][]byte{nil, {}, {0xff}, {0xff, 0xff}, {0xff, 0xff, 0xff}, {0, 0, 0}} {
		if got, e := Open(p); e != api.ErrShort || len(got) != 0 {
			t.Errorf("Open(%x) = %x, %d", p, got, e)
		}
	}
}

// P2.1: a bit that is turned, of the bytes or of the sum, makes another sum; beside an error there is no list.
func TestOpenOtherSum(t *testing.T) {
	sealed := Seal([]byte("weathervane"))
	for i := range len(sealed) * 8 {
		p := bytes.Clone(sealed)
		p[i/8] ^= 1 << (i % 8)
		if got, e := Open(p); e != api.ErrSum || len(got) != 0 {
			t.Errorf("bit %d: %x, %d", i, got, e)
		}
	}
	for _, p := range [][]byte{{0, 0, 0, 0}, {0xff, 0xff, 0xff, 0xfe}, sealed[:len(sealed)-1], sealed[1:]} {
		if got, e := Open(p); e != api.ErrSum || len(got) != 0 {
			t.Errorf("Open(%x) = %x, %d", p, got, e)
		}
	}
}

// Memory: what is handed in is not changed, its spare room neither, and what is answered shares none of it.
func TestMemory(t *testing.T) {
	room := []byte("hello, and room behind it")
	p := room[:5]
	sealed := Seal(p)
	if string(room) != "hello, and room behind it" {
		t.Errorf("Seal wrote into what it was handed: %q", room)
	}
	sealed[0] = 'j'
	p[1] = 'u'
	if string(p) != "hullo" || string(sealed[:5]) != "jello" {
		t.Errorf("Seal's answer shares memory: %q, %q", p, sealed)
	}

	sealed = Seal([]byte("hello"))
	before := bytes.Clone(sealed)
	got, e := Open(sealed)
	if e != api.OK {
		t.Fatal(e)
	}
	_ = append(got, "over the sum"...)
	got[0] = 'j'
	if !bytes.Equal(sealed, before) {
		t.Errorf("Open's answer shares memory: %x, want %x", sealed, before)
	}
}

// P2: the same bytes have the same answers, whatever was asked before and whatever room is behind them.
func TestSameAgain(t *testing.T) {
	room := append([]byte("abc"), 1, 2, 3)
	for range 3 {
		if Of(room[:3]) != Of([]byte("abc")) || !bytes.Equal(Seal(room[:3]), Seal([]byte("abc"))) {
			t.Error("another answer to the same bytes")
		}
		Of([]byte("something else"))
		Open([]byte("something else"))
	}
}
