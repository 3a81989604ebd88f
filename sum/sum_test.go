package sum_test

import (
	"bytes"
	"hash/crc32"
	"math"
	"strings"
	"testing"

	"couplet/api"
	"couplet/sum"
)

// by is what a number is xored with, where the bit that was shifted out was 1.
const by = 0xedb88320

// starts are sums to go on from: that of no bytes, ends of what may be, single bits, and others.
func starts() []uint32 {
	l := []uint32{0, 1, math.MaxUint32, math.MaxUint32 - 1, 1 << 31, 1<<31 - 1, by, ^uint32(by), 0xcbf43926, 0x12345678}
	for i := range 32 {
		l = append(l, 1<<i, ^uint32(1<<i))
	}
	return l
}

// reckoned is the sum of all parts as the words say it, bit by bit.
func reckoned(parts ...[]byte) uint32 {
	n := uint32(math.MaxUint32)
	for _, b := range parts {
		for _, x := range b {
			n ^= uint32(x)
			for range 8 {
				out := n & 1
				n >>= 1
				if out == 1 {
					n ^= by
				}
			}
		}
	}
	return ^n
}

// having are the 4 bytes whose sum is n: each sum has just those, found by going back bit by bit.
func having(n uint32) []byte {
	n = ^n
	for range 32 {
		// The highest bit comes of what was xored, and so of a bit 1, alone.
		if n>>31 == 1 {
			n = (n^by)<<1 | 1
		} else {
			n <<= 1
		}
	}
	n = ^n
	return []byte{byte(n), byte(n >> 8), byte(n >> 16), byte(n >> 24)}
}

// mixed are bytes of all values, always the same ones.
func mixed(seed uint64, count int) []byte {
	x := seed*2 + 0x9e3779b97f4a7c15
	b := make([]byte, count)
	for i := range b {
		x ^= x << 13
		x ^= x >> 7
		x ^= x << 17
		b[i] = byte(x >> 24)
	}
	return b
}

// counted are the bytes from 0 on, and from 0 again behind 255.
func counted(count int) []byte {
	b := make([]byte, count)
	for i := range b {
		b[i] = byte(i)
	}
	return b
}

// rows are ordinary rows of bytes, and such as a frame has.
func rows() [][]byte {
	l := [][]byte{
		[]byte("123456789"),
		[]byte("The quick brown fox jumps over the lazy dog"),
		[]byte("größer als 0, naïve, 三角形\n\x00\xff"),
		[]byte("NV\x03\x01\x00\x00\x00\x00"),
		counted(256),
		bytes.Repeat([]byte{0}, 36),
		bytes.Repeat([]byte{0xff}, 36),
		bytes.Repeat([]byte{0, 0xff}, 18),
	}
	for i, n := range []int{1, 2, 3, 4, 5, 7, 8, 15, 16, 17, 31, 32, 33, 36, 100, 255, 256, 257, api.MaxFrame} {
		l = append(l, mixed(uint64(i), n))
	}
	return l
}

// P11.1: the document's example, and sums that are known.
func TestKnown(t *testing.T) {
	for text, want := range map[string]uint32{
		"123456789":      0xcbf43926,
		"":               0,
		"a":              0xe8b7be43,
		"abc":            0x352441c2,
		"message digest": 0x20159d7f,
		"The quick brown fox jumps over the lazy dog": 0x414fa339,
		strings.Repeat("\x00", 32):                    0x190a55ad,
		strings.Repeat("\xff", 32):                    0xff6cab0b,
		string(counted(32)):                           0x91267e8a,
		string(counted(256)):                          0x29058c73,
		"\xff\xff\xff\xff":                            math.MaxUint32,
	} {
		if n := sum.Of([]byte(text)); n != want {
			t.Errorf("Of %q is %x, not %x", text, n, want)
		}
		if n := sum.Update(0, []byte(text)); n != want {
			t.Errorf("Update of 0 by %q is %x, not %x", text, n, want)
		}
	}
}

// P11.1: of no bytes at all the sum is 0, and each sum that goes on with none stays.
func TestNoBytes(t *testing.T) {
	full := []byte("abc")
	for _, none := range [][]byte{nil, {}, full[:0], full[3:], make([]byte, 0, 9)} {
		if n := sum.Of(none); n != 0 {
			t.Errorf("Of no bytes is %x", n)
		}
		for _, n := range starts() {
			if m := sum.Update(n, none); m != n {
				t.Errorf("Update of %x by no bytes is %x", n, m)
			}
		}
	}
}

// P11.1: each single byte, alone and behind any sum.
func TestOneByte(t *testing.T) {
	for x := range 256 {
		b := []byte{byte(x)}
		if n, want := sum.Of(b), reckoned(b); n != want {
			t.Errorf("Of byte %x is %x, not %x", x, n, want)
		}
		for _, n := range starts() {
			if m, want := sum.Update(n, b), reckoned(having(n), b); m != want {
				t.Errorf("Update of %x by byte %x is %x, not %x", n, x, m, want)
			}
		}
	}
}

// P11.1: each pair of bytes, so that each half meets each other one.
func TestTwoBytes(t *testing.T) {
	for x := range 1 << 16 {
		b := []byte{byte(x), byte(x >> 8)}
		if n, want := sum.Of(b), reckoned(b); n != want {
			t.Fatalf("Of %x is %x, not %x", b, n, want)
		}
	}
}

// P11.1: the sum as the words say it, bit by bit, and as the library tells it.
func TestReckoned(t *testing.T) {
	for _, b := range rows() {
		want := reckoned(b)
		if n := sum.Of(b); n != want || n != crc32.ChecksumIEEE(b) {
			t.Errorf("Of %x is %x, not %x", b, n, want)
		}
		for _, n := range starts() {
			want := reckoned(having(n), b)
			if m := sum.Update(n, b); m != want || m != crc32.Update(n, crc32.IEEETable, b) {
				t.Errorf("Update of %x by %x is %x, not %x", n, b, m, want)
			}
		}
	}
}

// P11.1: rows of every length, up to that of a frame.
func TestLengths(t *testing.T) {
	b := mixed(7, api.MaxFrame)
	for i := range len(b) + 1 {
		if n, want := sum.Of(b[:i]), reckoned(b[:i]); n != want {
			t.Errorf("Of %d bytes is %x, not %x", i, n, want)
		}
	}
}

// P11.1: long rows, at once and in parts.
func TestLong(t *testing.T) {
	const many = 1<<20 + 3
	for i, b := range [][]byte{mixed(1, many), counted(many), make([]byte, many), bytes.Repeat([]byte{0xff}, many)} {
		want := reckoned(b)
		if n := sum.Of(b); n != want {
			t.Errorf("Of long row %d is %x, not %x", i, n, want)
		}
		if n := sum.Update(sum.Of(b[:many/3]), b[many/3:]); n != want {
			t.Errorf("Update of a third of long row %d is %x, not %x", i, n, want)
		}
	}
}

// P11.1: each number is the sum of some bytes, from which a sum goes on as if these stood ahead.
func TestFromAnySum(t *testing.T) {
	for i, n := range append(starts(), 0xdeadbeef, 0x80000001, 0x0f0f0f0f) {
		ahead := having(n)
		if m := sum.Of(ahead); m != n {
			t.Errorf("Of %x is %x, not %x", ahead, m, n)
		}
		b := mixed(uint64(i), 50)
		if m, want := sum.Update(n, b), sum.Of(append(ahead, b...)); m != want {
			t.Errorf("Update of %x by %x is %x, not %x", n, b, m, want)
		}
	}
}

// P11.1: byte by byte, each sum on the way is that of the bytes so far.
func TestByteByByte(t *testing.T) {
	for _, b := range rows() {
		n := sum.Of(nil)
		for i := range b {
			n = sum.Update(n, b[i:i+1])
			if want := reckoned(b[:i+1]); n != want {
				t.Fatalf("byte by byte, the sum of %x is %x, not %x", b[:i+1], n, want)
			}
		}
	}
}

// P11.1: two parts, and three, of any length, none at all too.
func TestParts(t *testing.T) {
	b := mixed(3, 40)
	want := sum.Of(b)
	for i := range len(b) + 1 {
		first := sum.Of(b[:i])
		if n := sum.Update(first, b[i:]); n != want {
			t.Errorf("parted at %d, the sum is %x, not %x", i, n, want)
		}
		for k := i; k <= len(b); k++ {
			if n := sum.Update(sum.Update(first, b[i:k]), b[k:]); n != want {
				t.Errorf("parted at %d and %d, the sum is %x, not %x", i, k, n, want)
			}
		}
	}
}

// P11.1: many parts, each as long as another one.
func TestEvenParts(t *testing.T) {
	for _, b := range rows() {
		want := sum.Of(b)
		for _, long := range []int{1, 2, 3, 4, 5, 8, 13, 64, 255, 256, 1000} {
			n := sum.Of(nil)
			for rest := b; len(rest) > 0; {
				part := rest[:min(long, len(rest))]
				n, rest = sum.Update(n, part), rest[len(part):]
			}
			if n != want {
				t.Errorf("in parts of %d, the sum of %x is %x, not %x", long, b, n, want)
			}
		}
	}
}

// P11.1: the order of parts, and of bytes, matters, and so do noughts ahead and behind.
func TestOrder(t *testing.T) {
	a, b := []byte("abc"), []byte("xyz")
	if sum.Update(sum.Of(a), b) == sum.Update(sum.Of(b), a) {
		t.Error("turned parts have the same sum")
	}
	seen := map[uint32]int{}
	for i := range 100 {
		n := sum.Of(make([]byte, i))
		if k, is := seen[n]; is {
			t.Error("as many noughts as", i, "and", k, "have the same sum")
		}
		seen[n] = i
		if i > 0 && sum.Of(append(make([]byte, i), a...)) == sum.Of(append(make([]byte, i-1), a...)) {
			t.Error("one nought ahead less than", i, "has the same sum")
		}
	}
}

// places are where bits are turned: the first, the second, a middle, the last but one and the last byte.
func places(b []byte) []int {
	last := len(b) - 1
	return []int{0, min(1, last), len(b) / 2, max(0, last-1), last}
}

// checkTurned turns every choice of bits of one byte: each has a sum of its own, and none that of the bytes as they were.
func checkTurned(t *testing.T, from uint32, b []byte, place int) {
	t.Helper()
	seen := make(map[uint32]int, 256)
	turned := bytes.Clone(b)
	for bits := range 256 {
		turned[place] = b[place] ^ byte(bits)
		n := sum.Update(from, turned)
		if other, is := seen[n]; is {
			t.Errorf("of %d bytes from %x, bits %08b and %08b turned at %d have the same sum, %x", len(b), from, other, bits, place, n)
		}
		seen[n] = bits
	}
}

// P11.2: every bit, and every choice of bits, turned within one byte, of rows of all kinds.
func TestTurned(t *testing.T) {
	for _, b := range rows() {
		was := sum.Of(b)
		for _, place := range places(b) {
			for bits := 1; bits < 256; bits++ {
				turned := bytes.Clone(b)
				turned[place] ^= byte(bits)
				if sum.Of(turned) == was {
					t.Errorf("of %x, bits %08b turned at %d have the same sum, %x", b, bits, place, was)
				}
			}
			checkTurned(t, 0, b, place)
		}
	}
}

// P11.2: at every byte of a frame's length, and behind any sum.
func TestTurnedEverywhere(t *testing.T) {
	b := mixed(11, 36)
	for place := range b {
		for _, n := range starts() {
			checkTurned(t, n, b, place)
		}
	}
}

// P11.2: of a long row, at its ends and in its middle.
func TestTurnedLong(t *testing.T) {
	b := mixed(13, 1<<15)
	for _, place := range places(b) {
		checkTurned(t, 0, b, place)
	}
}

// P11.2: bits turned in the part that went ahead are still seen behind what follows.
func TestTurnedAhead(t *testing.T) {
	b := mixed(17, 90)
	was := sum.Of(b)
	for _, place := range places(b[:30]) {
		for bits := 1; bits < 256; bits++ {
			turned := bytes.Clone(b[:30])
			turned[place] ^= byte(bits)
			if n := sum.Update(sum.Update(sum.Of(turned), b[30:60]), b[60:]); n == was {
				t.Errorf("bits %08b turned at %d have the same sum behind two parts more", bits, place)
			}
		}
	}
}

// Memory: bytes that a call is given stay as they were, those behind their end and ahead of their beginning too,
// and what these are is not to be seen.
func TestBytesStay(t *testing.T) {
	for _, b := range rows() {
		room := append(append(mixed(1, 20), b...), mixed(2, 20)...)
		was := bytes.Clone(room)
		part := room[20 : 20+len(b)]
		n, m := sum.Of(part), sum.Update(0xcbf43926, part)
		if !bytes.Equal(room, was) {
			t.Errorf("bytes %x have changed", b)
		}
		cut := bytes.Clone(b)
		if sum.Of(cut[:len(cut):len(cut)]) != n || sum.Update(0xcbf43926, cut) != m {
			t.Errorf("the sum of %x hangs on what stands about it", b)
		}
	}
}

// One answer: nothing is kept from call to call, nor of bytes that change behind one.
func TestNothingKept(t *testing.T) {
	b := []byte("123456789")
	first, on := sum.Of(b), sum.Update(5, b)
	for _, other := range rows() {
		sum.Update(sum.Of(other), other)
		if sum.Of(b) != first || sum.Update(5, b) != on {
			t.Fatalf("another sum behind %x", other)
		}
	}
	b[0] = 'x'
	if n, want := sum.Of(b), reckoned(b); n != want {
		t.Errorf("of bytes that have changed, the sum is %x, not %x", n, want)
	}
}
