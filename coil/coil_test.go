package coil

import (
	"bytes"
	"math"
	"math/big"
	"strings"
	"testing"

	"weathervane/api"
)

// edges are numbers around every power of two.
func edges() []uint64 {
	l := []uint64{0, 300, math.MaxUint64}
	for i := range 64 {
		l = append(l, 1<<i-1, 1<<i, 1<<i+1)
	}
	return l
}

// byGroups is P1.1's rule as it stands there: how many groups n has, and each of them.
func byGroups(n uint64) []byte {
	count := 1
	for count < 10 && n>>(7*count) != 0 {
		count++
	}
	var p []byte
	for i := count - 1; i >= 0; i-- {
		b := byte(n >> (7 * i) & 127)
		if i > 0 {
			b += 128
		}
		p = append(p, b)
	}
	return p
}

// P1.1: known bytes.
func TestPutKnown(t *testing.T) {
	for n, want := range map[uint64]string{
		0:              "\x00",
		1:              "\x01",
		127:            "\x7f",
		128:            "\x81\x00",
		300:            "\x82\x2c",
		1<<14 - 1:      "\xff\x7f",
		1 << 14:        "\x81\x80\x00",
		1<<63 - 1:      "\xff\xff\xff\xff\xff\xff\xff\xff\x7f",
		1 << 63:        "\x81\x80\x80\x80\x80\x80\x80\x80\x80\x00",
		math.MaxUint64: "\x81\xff\xff\xff\xff\xff\xff\xff\xff\x7f",
	} {
		if got := Put(nil, n); string(got) != want {
			t.Errorf("Put(none, %d) = %x, want %x", n, got, want)
		}
	}
}

// P1.1: the groups of numbers of all sizes, their size, and behind other bytes.
func TestPutAndSize(t *testing.T) {
	for _, n := range edges() {
		want := byGroups(n)
		if got := Put(nil, n); !bytes.Equal(got, want) {
			t.Errorf("Put(none, %d) = %x, want %x", n, got, want)
		}
		if got := Put([]byte("ab"), n); string(got) != "ab"+string(want) {
			t.Errorf("Put(ab, %d) = %x", n, got)
		}
		if got := Size(n); got != len(want) {
			t.Errorf("Size(%d) = %d, want %d", n, got, len(want))
		}
	}
}

// P1.1: Zig's values, and Zag's, which is its way back, at both ends too.
func TestZigAndZag(t *testing.T) {
	for n, want := range map[int64]uint64{
		0: 0, -1: 1, 1: 2, -2: 3, 2: 4, 64: 128, -65: 129,
		math.MaxInt64: math.MaxUint64 - 1,
		math.MinInt64: math.MaxUint64,
	} {
		if got := Zig(n); got != want {
			t.Errorf("Zig(%d) = %d, want %d", n, got, want)
		}
		if got := Zag(want); got != n {
			t.Errorf("Zag(%d) = %d, want %d", want, got, n)
		}
	}
	for _, u := range edges() {
		if got := Zig(Zag(u)); got != u {
			t.Errorf("Zig(Zag(%d)) = %d", u, got)
		}
	}
}

// P1.1: a text's length is Put, in bytes, and they follow.
func TestText(t *testing.T) {
	long := strings.Repeat("x", 300)
	for s, want := range map[string]string{
		"":         "\x00",
		"hi":       "\x02hi",
		"\u00e9":   "\x02\xc3\xa9",
		"\xff\x00": "\x02\xff\x00",
		long:       "\x82\x2c" + long,
	} {
		if got := Text(nil, s); string(got) != want {
			t.Errorf("Text(none, %q) = %x, want %x", s, got, want)
		}
		if got := Text([]byte("ab"), s); string(got) != "ab"+want {
			t.Errorf("Text(ab, %q) = %x", s, got)
		}
	}
}

// Memory: the bytes that are handed in stay as they are.
func TestPutKeepsWhatIsThere(t *testing.T) {
	p := append(make([]byte, 0, 64), "abc"...)
	if got := Text(Put(p, 300), "hi"); string(got) != "abc\x82\x2c\x02hi" || string(p) != "abc" {
		t.Errorf("%x, %x", got, p)
	}
}

// readRule is P1.2's Num as it stands there: byte by byte, of a number without bounds.
func readRule(p []byte, most uint64) (uint64, api.Errno) {
	n := new(big.Int)
	for i := 0; ; i++ {
		if i == len(p) {
			return 0, api.ErrShort
		}
		if i == 0 && p[i] == 128 {
			return 0, api.ErrForm
		}
		n.Lsh(n, 7)
		n.Add(n, big.NewInt(int64(p[i]%128)))
		if n.BitLen() > 64 {
			return 0, api.ErrForm
		}
		if p[i] < 128 && n.Uint64() > most {
			return 0, api.ErrLong
		}
		if p[i] < 128 {
			return n.Uint64(), api.OK
		}
	}
}

func checkNum(t *testing.T, p []byte, most uint64) {
	t.Helper()
	want, fault := readRule(p, most)
	r := NewReader(p)
	got := r.Num(most)
	if got != want || r.Fault() != fault {
		t.Errorf("%x, at most %d: %d, fault %d; want %d, fault %d", p, most, got, r.Fault(), want, fault)
	}
	if fault == api.OK && r.Left() != len(p)-Size(want) {
		t.Errorf("%x: %d bytes are left", p, r.Left())
	}
}

// P1.2: of all bytes of one and two, and of three that stand at the edges.
func TestNumOfFewBytes(t *testing.T) {
	few := []byte{0, 1, 10, 127, 128, 129, 130, 255}
	for _, most := range []uint64{0, 1, 10, 127, 128, 300, math.MaxUint64} {
		checkNum(t, nil, most)
		for a := range 256 {
			checkNum(t, []byte{byte(a)}, most)
			for b := range 256 {
				checkNum(t, []byte{byte(a), byte(b)}, most)
			}
			for _, b := range few {
				for _, c := range few {
					checkNum(t, []byte{byte(a), b, c}, most)
				}
			}
		}
	}
}

// P1.2: of numbers near 64 bits: beginnings, what follows, and where they end.
func TestNumOfManyBytes(t *testing.T) {
	for _, a := range []byte{0x80, 0x81, 0x82, 0x83, 0xc0, 0xff} {
		for _, fill := range []byte{0x80, 0x81, 0xff} {
			for n := range 12 {
				p := append([]byte{a}, bytes.Repeat([]byte{fill}, n)...)
				for _, most := range []uint64{0, 1 << 62, 1<<63 - 1, 1 << 63, math.MaxUint64 - 1, math.MaxUint64} {
					checkNum(t, p, most)
					checkNum(t, append(bytes.Clone(p), 0), most)
					checkNum(t, append(bytes.Clone(p), 0x7f), most)
				}
			}
		}
	}
}

// P1.2: the edges that the chapter names.
func TestNumFaults(t *testing.T) {
	eight := strings.Repeat("\xff", 8)
	for _, c := range []struct {
		what, bytes string
		most        uint64
		want        api.Errno
	}{
		{"no byte", "", 10, api.ErrShort},
		{"it goes on, and ends", "\x81", 10, api.ErrShort},
		{"it is above most already, but its last byte isn't there", "\xff\xff", 10, api.ErrShort},
		{"128 ahead of all", "\x80\x00", 10, api.ErrForm},
		{"128 ahead of all, and no byte behind", "\x80", 10, api.ErrForm},
		{"at most", "\x0a", 10, api.OK},
		{"above most", "\x0b", 10, api.ErrLong},
		{"above a most of 0", "\x01", 0, api.ErrLong},
		{"64 bits", "\x81" + eight + "\x7f", math.MaxUint64, api.OK},
		{"65 bits at its last byte", "\x82" + eight + "\x7f", math.MaxUint64, api.ErrForm},
		{"65 bits at a byte that goes on", "\x82" + eight + "\xff", math.MaxUint64, api.ErrForm},
		{"65 bits, but for the byte with which it would have them", "\x82" + eight, math.MaxUint64, api.ErrShort},
		{"64 bits, and it goes on", "\x81" + eight + "\xff", math.MaxUint64, api.ErrShort},
		{"64 bits, it goes on, and there is more", "\x81" + eight + "\xff\x00", math.MaxUint64, api.ErrForm},
		{"more than 64 bits is told ahead of above most", "\x82" + eight + "\x7f", 10, api.ErrForm},
	} {
		r := NewReader([]byte(c.bytes))
		n := r.Num(c.most)
		if r.Fault() != c.want || c.want != api.OK && n != 0 {
			t.Errorf("%s: %d, fault %d, want %d", c.what, n, r.Fault(), c.want)
		}
	}
}

// P1.2: what Put makes is read, one behind the other.
func TestNumReadsPut(t *testing.T) {
	var p []byte
	for _, n := range edges() {
		p = Put(p, n)
	}
	r := NewReader(p)
	left := len(p)
	for _, n := range edges() {
		if r.Left() != left {
			t.Errorf("%d bytes are left, want %d", r.Left(), left)
		}
		if got := r.Num(n); got != n {
			t.Fatalf("%d, want %d (fault %d)", got, n, r.Fault())
		}
		left -= Size(n)
	}
	if r.Left() != 0 || r.End() != api.OK {
		t.Errorf("left %d, end %d", r.Left(), r.End())
	}
}

// P1.2: Int is up to most, and up to 0 if that is below 0.
func TestInt(t *testing.T) {
	for _, c := range []struct {
		n     uint64
		most  int
		want  int
		fault api.Errno
	}{
		{300, 300, 300, api.OK},
		{300, 299, 0, api.ErrLong},
		{0, 0, 0, api.OK},
		{0, -1, 0, api.OK},
		{1, -1, 0, api.ErrLong},
		{0, math.MinInt, 0, api.OK},
		{math.MaxUint64, math.MinInt, 0, api.ErrLong},
		{math.MaxInt, math.MaxInt, math.MaxInt, api.OK},
		{math.MaxInt + 1, math.MaxInt, 0, api.ErrLong},
	} {
		r := NewReader(Put(nil, c.n))
		if got := r.Int(c.most); got != c.want || r.Fault() != c.fault {
			t.Errorf("Int(%d) of %d: %d, fault %d", c.most, c.n, got, r.Fault())
		}
	}
	for s, want := range map[string]api.Errno{"": api.ErrShort, "\x81": api.ErrShort, "\x80\x01": api.ErrForm} {
		r := NewReader([]byte(s))
		if got := r.Int(10); got != 0 || r.Fault() != want {
			t.Errorf("Int of %x: %d, fault %d", s, got, r.Fault())
		}
	}
}

// P1.2: Bytes reads what Text makes.
func TestBytes(t *testing.T) {
	for _, c := range []struct {
		bytes string
		most  int
		want  string
		fault api.Errno
		left  int
	}{
		{"\x02hi", 2, "hi", api.OK, 0},
		{"\x02hi!", 9, "hi", api.OK, 1},
		{"\x00", 0, "", api.OK, 0},
		{"\x00", -5, "", api.OK, 0},
		{"\x00x", 5, "", api.OK, 1},
		{"\x02\xff\x00", 5, "\xff\x00", api.OK, 0},
		{"\x03hi!", 2, "", api.ErrLong, 0},
		{"\x01h", -1, "", api.ErrLong, 0},
		{"\x03hi", 9, "", api.ErrShort, 0},
		{"\x01", 9, "", api.ErrShort, 0},
		{"", 9, "", api.ErrShort, 0},
		{"\x80\x00", 9, "", api.ErrForm, 0},
		{"\x81\xff\xff\xff\xff\xff\xff\xff\xff\x7f", math.MaxInt, "", api.ErrLong, 0},
		{"\xff\xff\xff\xff\xff\xff\xff\xff\x7f", math.MaxInt, "", api.ErrShort, 0},
	} {
		r := NewReader([]byte(c.bytes))
		got := r.Bytes(c.most)
		if got != c.want || r.Fault() != c.fault {
			t.Errorf("Bytes(%d) of %x: %q, fault %d", c.most, c.bytes, got, r.Fault())
		}
		if c.fault == api.OK && r.Left() != c.left {
			t.Errorf("Bytes(%d) of %x: %d are left", c.most, c.bytes, r.Left())
		}
	}
}

// P1.2: the first fault stays, whoever told it, and all is 0, or none, behind it.
func TestFirstFaultStays(t *testing.T) {
	for _, e := range []api.Errno{api.ErrArg, api.ErrForm, api.ErrLimit, -1} {
		r := NewReader([]byte("\x05\x05\x05"))
		r.Num(9)
		r.Fail(e)
		r.Fail(api.ErrNone)
		r.Fail(api.OK)
		checkBehindFault(t, r, e)
	}
	r := NewReader([]byte("\x05\x05\x05"))
	r.Num(4)
	r.Fail(api.ErrRule)
	checkBehindFault(t, r, api.ErrLong)
}

func checkBehindFault(t *testing.T, r *Reader, want api.Errno) {
	t.Helper()
	for range 2 {
		if r.Fault() != want || r.End() != want {
			t.Errorf("fault %d, end %d, want %d", r.Fault(), r.End(), want)
		}
		if n, i, s := r.Num(9), r.Int(9), r.Bytes(9); n != 0 || i != 0 || s != "" {
			t.Errorf("behind fault %d: %d, %d, %q", want, n, i, s)
		}
	}
}

// P1.2: to fail with OK is no fault.
func TestFailWithOK(t *testing.T) {
	r := NewReader([]byte{7})
	r.Fail(api.OK)
	if r.Fault() != api.OK || r.Left() != 1 || r.Num(9) != 7 || r.End() != api.OK {
		t.Errorf("fault %d, end %d", r.Fault(), r.End())
	}
}

// P1.2: End tells that something is left, and makes no fault of it.
func TestEnd(t *testing.T) {
	r := NewReader([]byte{1, 2})
	if r.Num(9) != 1 || r.End() != api.ErrForm || r.End() != api.ErrForm || r.Fault() != api.OK {
		t.Errorf("end %d, fault %d", r.End(), r.Fault())
	}
	if r.Num(9) != 2 || r.End() != api.OK || r.Left() != 0 {
		t.Errorf("end %d, left %d", r.End(), r.Left())
	}
	if r.Num(9) != 0 || r.End() != api.ErrShort {
		t.Errorf("behind the end: %d", r.End())
	}
	for _, p := range [][]byte{nil, {}} {
		if r := NewReader(p); r.End() != api.OK || r.Left() != 0 || r.Fault() != api.OK {
			t.Errorf("of no bytes: end %d", r.End())
		}
	}
}

// P1, P1.2: a nil Reader answers ErrNone, 0, none.
func TestNilReader(t *testing.T) {
	var r *Reader
	r.Fail(api.ErrForm)
	if r.Fault() != api.ErrNone || r.End() != api.ErrNone {
		t.Errorf("fault %d, end %d", r.Fault(), r.End())
	}
	if r.Num(9) != 0 || r.Int(9) != 0 || r.Int(-9) != 0 || r.Bytes(9) != "" || r.Bytes(-9) != "" || r.Left() != 0 {
		t.Error("a nil Reader tells something")
	}
}

// Memory: what a Reader was handed may be written over, and it writes over nothing itself.
func TestReaderHasItsOwnBytes(t *testing.T) {
	p := []byte("\x02hi\x05")
	before := bytes.Clone(p)
	r := NewReader(p)
	clear(p)
	if s, n := r.Bytes(9), r.Num(9); s != "hi" || n != 5 || r.End() != api.OK {
		t.Errorf("%q, %d, end %d", s, n, r.End())
	}
	copy(p, before)
	NewReader(p).Bytes(9)
	if !bytes.Equal(p, before) {
		t.Errorf("what was handed in is %x now", p)
	}
}

// P2: readers of the same bytes tell the same, and none is moved by another one.
func TestReadersAreApart(t *testing.T) {
	p := []byte("\x01\x02\x03")
	a, b := NewReader(p), NewReader(p)
	a.Num(9)
	a.Fail(api.ErrSum)
	for want := range 3 {
		if got := b.Int(9); got != want+1 {
			t.Errorf("%d, want %d", got, want+1)
		}
	}
	if b.End() != api.OK || a.End() != api.ErrSum {
		t.Errorf("ends %d, %d", a.End(), b.End())
	}
}
