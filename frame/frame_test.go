package frame_test

import (
	"bytes"
	"encoding/binary"
	"hash/crc32"
	"math"
	"reflect"
	"slices"
	"testing"

	"couplet/api"
	"couplet/frame"
)

// counts are how many numbers frames have, of each kind and each N, written out.
var counts = map[[2]int]int{
	{frame.Start, 1}: 2, {frame.Start, 2}: 6, {frame.Start, 3}: 12, {frame.Start, 4}: 20,
	{frame.Tick, 1}: 2, {frame.Tick, 2}: 8, {frame.Tick, 3}: 18, {frame.Tick, 4}: 32,
	{frame.Measure, 1}: 3, {frame.Measure, 2}: 4, {frame.Measure, 3}: 5, {frame.Measure, 4}: 6,
}

// pairs are the kinds and Ns that there are, in order.
func pairs() [][2]int {
	var l [][2]int
	for kind := frame.Start; kind <= frame.Measure; kind++ {
		for n := 1; n <= api.MaxState; n++ {
			l = append(l, [2]int{kind, n})
		}
	}
	return l
}

// mixed are numbers of all sizes that may be, of either sign, always the same ones.
func mixed(seed uint64, count int) []int {
	x := seed*2 + 0x9e3779b97f4a7c15
	l := make([]int, count)
	for i := range l {
		for range 3 {
			x ^= x << 13
			x ^= x >> 7
			x ^= x << 17
		}
		n := int(x>>13) >> (x % 51) // below 2^51, and any shorter
		l[i] = max(-api.Max, min(api.Max, n-n&1*2*n))
	}
	return l
}

// ends are numbers at the ends of what may be, of a byte, and of a word of the bytes.
func ends() []int {
	l := []int{0, api.Max, api.Max - 1, 127, 128, 255, 256, 1<<31 - 1, 1 << 31, math.MaxUint32, 1 << 32, 0x0102030405060, api.Unit}
	for _, n := range l {
		l = append(l, -n)
	}
	return append(l, -129, -257)
}

// filled is as many numbers as asked for, all of them n.
func filled(n, count int) []int {
	return slices.Repeat([]int{n}, count)
}

// good are frames of each kind and each N, of ordinary numbers and of those at the ends of what may be.
func good() []frame.Frame {
	seqs := []int{0, 1, 255, 256, 65535, 1 << 16, 1 << 31, 0x12345678, math.MaxUint32 - 1, math.MaxUint32}
	var l []frame.Frame
	for i, p := range pairs() {
		many := counts[p]
		for j, seq := range seqs {
			l = append(l, frame.Frame{Kind: p[0], Seq: seq, N: p[1], L: mixed(uint64(i*len(seqs)+j), many)})
		}
		for j, n := range ends() {
			f := frame.Frame{Kind: p[0], Seq: seqs[j%len(seqs)], N: p[1], L: filled(n, many)}
			g := f
			g.L = mixed(uint64(j), many)
			g.L[j%many] = n
			l = append(l, f, g)
		}
	}
	return l
}

// few are three frames, each of another kind, whose bytes are gone through with all that may be wrong.
func few() []frame.Frame {
	return []frame.Frame{
		{Kind: frame.Start, Seq: 7, N: 2, L: mixed(1, 6)},
		{Kind: frame.Tick, Seq: math.MaxUint32, N: 1, L: []int{api.Max, -api.Max}},
		{Kind: frame.Measure, Seq: 0, N: 1, L: []int{api.Unit, api.Unit, 3 * api.Unit}},
	}
}

// laid are the bytes of a kind, N, Seq and numbers, and their sum, whether such a frame may be or not.
func laid(kind, n byte, seq uint32, l ...int) []byte {
	b := binary.LittleEndian.AppendUint32([]byte{'N', 'V', kind, n}, seq)
	for _, x := range l {
		b = binary.LittleEndian.AppendUint64(b, uint64(x))
	}
	return summed(b)
}

// summed is b, and its sum behind it.
func summed(b []byte) []byte {
	return binary.LittleEndian.AppendUint32(slices.Clone(b), crc32.ChecksumIEEE(b))
}

// plain are the bytes that the words give a frame that may be.
func plain(f frame.Frame) []byte {
	return laid(byte(f.Kind), byte(f.N), uint32(f.Seq), f.L...)
}

// refused asks that bytes are decoded as nothing, with this error.
func refused(t *testing.T, what string, b []byte, want api.Errno) {
	t.Helper()
	f, e := frame.Decode(b)
	if e != want {
		t.Errorf("%s: Decode of %x tells %d, not %d", what, b, e, want)
	}
	if f.Kind != 0 || f.Seq != 0 || f.N != 0 || len(f.L) != 0 {
		t.Errorf("%s: Decode of %x tells an error, and %v", what, b, f)
	}
}

// wrong asks that a frame may not be, and has no bytes.
func wrong(t *testing.T, what string, f frame.Frame) {
	t.Helper()
	if frame.Right(f) {
		t.Errorf("%s: Right of %v", what, f)
	}
	if b, e := frame.Encode(f); e != api.ErrArg || len(b) != 0 {
		t.Errorf("%s: Encode of %v is %x, %d", what, f, b, e)
	}
}

// P12.1: the kinds are 1, 2 and 3.
func TestKinds(t *testing.T) {
	if frame.Start != 1 || frame.Tick != 2 || frame.Measure != 3 {
		t.Error("kinds are", frame.Start, frame.Tick, frame.Measure)
	}
}

// P12.1: how many numbers a frame has, of each kind and N that there is.
func TestMany(t *testing.T) {
	for p, want := range counts {
		if n := frame.Many(p[0], p[1]); n != want {
			t.Errorf("Many of %v is %d, not %d", p, n, want)
		}
	}
}

// P12.1: 0 of a kind, or an n, that there is not: below, above, and such as end in the bits of one that there is.
func TestManyOfNone(t *testing.T) {
	off := []int{0, -1, -2, -3, -4, 5, 6, 255, 256, 1<<8 + 1, 1<<32 + 1, math.MaxInt, math.MinInt, math.MinInt + 1}
	for _, x := range off {
		for y := -1; y <= 6; y++ {
			if n := frame.Many(x, y); n != 0 {
				t.Errorf("Many of the kind %d and %d is %d", x, y, n)
			}
			if n := frame.Many(y, x); n != 0 {
				t.Errorf("Many of the kind %d and %d is %d", y, x, n)
			}
		}
	}
	for n := range 10 {
		if many := frame.Many(4, n); many != 0 {
			t.Errorf("Many of the kind 4 and %d is %d", n, many)
		}
	}
}

// P12.1: a frame of each kind and N may be, at the ends of Seq and of its numbers, too.
func TestRight(t *testing.T) {
	for _, f := range good() {
		if !frame.Right(f) {
			t.Errorf("%v may not be", f)
		}
	}
}

// P12.1: of kinds, Ns and Seqs that there are not no frame may be, however many numbers it has.
func TestWrongHead(t *testing.T) {
	for _, p := range pairs() {
		many := counts[p]
		f := frame.Frame{Kind: p[0], N: p[1], L: make([]int, many)}
		for _, x := range []int{0, -1, -2, 5, 256 + p[0], 256 + p[1], 1<<32 + 1, math.MaxInt, math.MinInt} {
			g := f
			g.Kind = x
			wrong(t, "kind", g)
			g.L = nil
			wrong(t, "kind, no numbers", g)
			g = f
			g.N = x
			wrong(t, "N", g)
			g.L = []int{}
			wrong(t, "N, no numbers", g)
		}
		f.Kind = 4
		wrong(t, "kind 4", f)
		f.Kind = p[0]
		for _, x := range []int{-1, 1 << 32, 1<<32 + 1, math.MaxInt, math.MinInt} {
			f.Seq = x
			wrong(t, "Seq", f)
		}
	}
	wrong(t, "the zero frame", frame.Frame{})
	for n := 5; n < 9; n++ {
		wrong(t, "Start of many", frame.Frame{Kind: frame.Start, N: n, L: make([]int, n+n*n)})
		wrong(t, "Tick of many", frame.Frame{Kind: frame.Tick, N: n, L: make([]int, 2*n*n)})
		wrong(t, "Measure of many", frame.Frame{Kind: frame.Measure, N: n, L: make([]int, n+2)})
	}
}

// P12.1: of too few numbers, none, nil, and too many no frame may be.
func TestWrongCount(t *testing.T) {
	for _, p := range pairs() {
		f := frame.Frame{Kind: p[0], Seq: 1, N: p[1]}
		wrong(t, "nil", f)
		f.L = []int{}
		wrong(t, "none", f)
		for n := range 64 {
			if f.L = make([]int, n); n != counts[p] {
				wrong(t, "count", f)
			}
		}
		// The room behind the end is not the frame's.
		f.L = make([]int, counts[p]+1)[:counts[p]-1]
		wrong(t, "room", f)
	}
}

// P12.1: a number that is a little, or much, too great makes a frame wrong, wherever it stands.
func TestWrongNumber(t *testing.T) {
	for _, p := range pairs() {
		for i := range counts[p] {
			f := frame.Frame{Kind: p[0], Seq: 1, N: p[1], L: mixed(uint64(i), counts[p])}
			for _, n := range []int{api.Max + 1, -api.Max - 1, 1 << 62, math.MaxInt, math.MinInt} {
				f.L[i] = n
				wrong(t, "number", f)
			}
			for _, n := range []int{api.Max, -api.Max} {
				if f.L[i] = n; !frame.Right(f) {
					t.Errorf("%v may not be", f)
				}
			}
		}
	}
}

// P12.1: frames are the same as themselves and as their copies, and another one, if they differ in one thing.
func TestSame(t *testing.T) {
	for _, f := range good() {
		g := f
		g.L = slices.Clone(f.L)
		if !frame.Same(f, f) || !frame.Same(f, g) || !frame.Same(g, f) {
			t.Errorf("%v is another one", f)
		}
		for i, h := range others(f) {
			if frame.Same(f, h) || frame.Same(h, f) {
				t.Errorf("%d: %v is the same as %v", i, f, h)
			}
		}
	}
}

// others are frames that differ from f in one thing alone, if in one that may not be.
func others(f frame.Frame) []frame.Frame {
	var l []frame.Frame
	for _, d := range []int{1, -1, 256, 1 << 32} {
		g, h, s := f, f, f
		g.Kind += d
		h.N += d
		s.Seq += d
		l = append(l, g, h, s)
	}
	for i := range f.L {
		for _, d := range []int{1, -1, 1 << 40} {
			g := f
			g.L = slices.Clone(f.L)
			g.L[i] += d
			l = append(l, g)
		}
	}
	short, long := f, f
	short.L = f.L[:len(f.L)-1]
	long.L = append(slices.Clone(f.L), 0)
	return append(l, short, long)
}

// P12.1: of no numbers nil and none mean the same; frames of the same numbers in another order are others.
func TestSameEdges(t *testing.T) {
	if !frame.Same(frame.Frame{}, frame.Frame{L: []int{}}) || !frame.Same(frame.Frame{L: []int{}}, frame.Frame{}) {
		t.Error("nil is not the same as none")
	}
	if frame.Same(frame.Frame{}, frame.Frame{L: []int{0}}) || frame.Same(frame.Frame{L: []int{0}}, frame.Frame{}) {
		t.Error("none is the same as one")
	}
	a := frame.Frame{Kind: frame.Tick, N: 1, L: []int{1, 2}}
	b := frame.Frame{Kind: frame.Tick, N: 1, L: []int{2, 1}}
	if frame.Same(a, b) {
		t.Error("the order does not matter")
	}
	// What stands in the room behind the end is not asked for.
	a.L, b.L = []int{1, 2, 3}[:2], []int{1, 2, 4}[:2]
	if !frame.Same(a, b) {
		t.Error("the room is asked for")
	}
}

// P12.1: the document's example: a Measure of N 1 has 36 bytes; these are they.
func TestExample(t *testing.T) {
	b, e := frame.Encode(frame.Frame{Kind: frame.Measure, Seq: 2, N: 1, L: []int{1, -1, 0x01020304}})
	want := []byte{
		'N', 'V', 3, 1, 2, 0, 0, 0,
		1, 0, 0, 0, 0, 0, 0, 0,
		255, 255, 255, 255, 255, 255, 255, 255,
		4, 3, 2, 1, 0, 0, 0, 0,
	}
	if e != api.OK || len(b) != 36 || !bytes.Equal(b, summed(want)) {
		t.Errorf("Encode is %x, %d", b, e)
	}
}

// P12.1: a frame's bytes are those that the words tell.
func TestEncode(t *testing.T) {
	for _, f := range good() {
		b, e := frame.Encode(f)
		if e != api.OK || !bytes.Equal(b, plain(f)) {
			t.Errorf("Encode of %v is %x, %d", f, b, e)
		}
		if len(b) != 12+8*counts[[2]int{f.Kind, f.N}] || len(b) > api.MaxFrame {
			t.Errorf("Encode of %v is %d bytes", f, len(b))
		}
	}
}

// P12.2: bytes made by the words alone are decoded as what they say.
func TestDecode(t *testing.T) {
	for _, f := range good() {
		g, e := frame.Decode(plain(f))
		if e != api.OK || g.Kind != f.Kind || g.Seq != f.Seq || g.N != f.N || !slices.Equal(g.L, f.L) {
			t.Errorf("Decode of the bytes of %v is %v, %d", f, g, e)
		}
	}
}

// P12.2: fewer than 12 bytes are too short, whatever they say; 12 bytes are asked for their form.
func TestTooShort(t *testing.T) {
	refused(t, "nil", nil, api.ErrShort)
	refused(t, "none", []byte{}, api.ErrShort)
	for n := range 12 {
		refused(t, "noughts", make([]byte, n), api.ErrShort)
		refused(t, "a beginning", plain(few()[0])[:n], api.ErrShort)
		refused(t, "another beginning", bytes.Repeat([]byte{'x'}, n), api.ErrShort)
	}
	refused(t, "12 noughts", make([]byte, 12), api.ErrForm)
	refused(t, "12 bytes", laid(frame.Start, 1, 0), api.ErrShort)
	refused(t, "12 bytes of no kind", laid(0, 1, 0), api.ErrForm)
	// The room behind the end is not the bytes'.
	refused(t, "room", plain(few()[0])[:11], api.ErrShort)
}

// P12.2: bytes of another form are told so, the sum being right or not.
func TestForm(t *testing.T) {
	for _, f := range few() {
		for x := range 256 {
			for i := range 4 {
				b := plain(f)
				if b[i] == byte(x) || !another(b[i], byte(x), i) {
					continue
				}
				b[i] = byte(x)
				refused(t, "form", b, api.ErrForm)
				refused(t, "form, with its sum", summed(b[:len(b)-4]), api.ErrForm)
				refused(t, "form, and short", b[:12], api.ErrForm)
				refused(t, "form, and more", append(b, 0), api.ErrForm)
			}
		}
	}
	refused(t, "both turned", laid2("VN"), api.ErrForm)
	refused(t, "small", laid2("nv"), api.ErrForm)
}

// another tells whether x in the place i of a frame's bytes is of no form, instead of was.
func another(was, x byte, i int) bool {
	switch i {
	case 2:
		return x < frame.Start || x > frame.Measure
	case 3:
		return x < 1 || x > api.MaxState
	}
	return was != x
}

// laid2 are the bytes of a frame that begins with other signs.
func laid2(signs string) []byte {
	b := plain(few()[2])
	copy(b, signs)
	return summed(b[:len(b)-4])
}

// P12.2: bytes without their last ones are too short, and bytes with some behind are too many.
func TestLength(t *testing.T) {
	for _, f := range good() {
		b := plain(f)
		refused(t, "without the last one", b[:len(b)-1], api.ErrShort)
		refused(t, "without the last number", summed(b[:len(b)-12]), api.ErrShort)
		refused(t, "with one behind", append(b[:len(b):len(b)], 0), api.ErrMore)
		refused(t, "with a number more", summed(append(b[:len(b)-4:len(b)-4], make([]byte, 8)...)), api.ErrMore)
	}
	for _, f := range few() {
		b := plain(f)
		for n := 12; n < len(b); n++ {
			refused(t, "without many", b[:n], api.ErrShort)
			refused(t, "without many, with its sum", summed(b[:n-4]), api.ErrShort)
		}
		for n := 1; n < 300; n++ {
			refused(t, "with many behind", append(b[:len(b):len(b)], make([]byte, n)...), api.ErrMore)
		}
		refused(t, "twice", append(b[:len(b):len(b)], b...), api.ErrMore)
	}
}

// P12.2: another sum is told, whichever it is.
func TestSum(t *testing.T) {
	for _, f := range few() {
		b := plain(f)
		n := binary.LittleEndian.Uint32(b[len(b)-4:])
		for _, s := range []uint32{0, ^n, n + 1, n - 1, n ^ 1<<31, math.MaxUint32, crc32.ChecksumIEEE(b[4 : len(b)-4])} {
			refused(t, "sum", binary.LittleEndian.AppendUint32(b[:len(b)-4:len(b)-4], s), api.ErrSum)
		}
		refused(t, "the highest byte first", binary.BigEndian.AppendUint32(b[:len(b)-4:len(b)-4], n), api.ErrSum)
	}
}

// P12.2: bytes that are all right but for a number that may not be are told so, wherever it stands.
func TestRange(t *testing.T) {
	for _, p := range pairs() {
		for i := range counts[p] {
			l := mixed(uint64(i), counts[p])
			for _, n := range []int{api.Max + 1, -api.Max - 1, 1 << 51, 1 << 62, math.MaxInt, math.MinInt} {
				l[i] = n
				b := laid(byte(p[0]), byte(p[1]), 9, l...)
				refused(t, "range", b, api.ErrRange)
				b[len(b)-1]++
				refused(t, "range, and the sum", b, api.ErrSum)
			}
			for _, n := range []int{api.Max, -api.Max} {
				l[i] = n
				f, e := frame.Decode(laid(byte(p[0]), byte(p[1]), 9, l...))
				if e != api.OK || !slices.Equal(f.L, l) {
					t.Errorf("Decode of %v is %v, %d", l, f, e)
				}
			}
		}
	}
}

// P12.2: of bytes that are wrong in several ways the first one in the words' order is told.
func TestOrder(t *testing.T) {
	great := laid(frame.Measure, 1, 0, 1, 2, math.MaxInt)
	badSum := slices.Clone(great)
	badSum[len(badSum)-1] ^= 1
	badForm := slices.Clone(badSum)
	badForm[0] = 'M'
	refused(t, "a number", great, api.ErrRange)
	refused(t, "a sum, a number", badSum, api.ErrSum)
	refused(t, "more, a sum, a number", append(slices.Clone(badSum), 1), api.ErrMore)
	refused(t, "less, a sum, a number", badSum[:len(badSum)-1], api.ErrShort)
	refused(t, "form, a sum, a number", badForm, api.ErrForm)
	refused(t, "form, more, a sum, a number", append(slices.Clone(badForm), 1), api.ErrForm)
	refused(t, "form, less, a sum, a number", badForm[:12], api.ErrForm)
	refused(t, "less than 12, form", badForm[:11], api.ErrShort)
}

// P12.3: what was encoded is decoded.
func TestBack(t *testing.T) {
	for _, f := range good() {
		b, e := frame.Encode(f)
		if e != api.OK {
			t.Fatal("Encode of", f, "tells", e)
		}
		g, e := frame.Decode(b)
		if e != api.OK || !frame.Same(f, g) || !reflect.DeepEqual(f, g) {
			t.Errorf("%v comes back as %v, %d", f, g, e)
		}
	}
}

// P12.3: nothing else is decoded as it: what is decoded is encoded as the very bytes, and other frames have others.
func TestAlone(t *testing.T) {
	seen := map[string]frame.Frame{}
	for _, f := range good() {
		f.L = slices.Clone(f.L)
		b := plain(f)
		g, e := frame.Decode(b)
		if e != api.OK {
			t.Fatalf("Decode of %x tells %d", b, e)
		}
		again, e := frame.Encode(g)
		if e != api.OK || !bytes.Equal(b, again) {
			t.Errorf("%x comes back as %x, %d", b, again, e)
		}
		if h, ok := seen[string(again)]; ok && !frame.Same(f, h) {
			t.Errorf("%v and %v have the same bytes", f, h)
		}
		seen[string(again)] = f
	}
}

// P12.3: whatever bytes are decoded at all are encoded as they were: bytes of any kind, N and Seq, their sum being right.
func TestAnyBytes(t *testing.T) {
	took := 0
	for seed := range uint64(3000) {
		b := []byte{'N', 'V', byte(seed % 5), byte(seed / 5 % 6)}
		for _, n := range mixed(seed, 1+int(seed)%40) {
			b = binary.LittleEndian.AppendUint64(b, uint64(n))
		}
		// The first number gives Seq 4 bytes, and 4 bytes that are left out.
		b = summed(append(b[:8:8], b[12:]...))
		f, e := frame.Decode(b)
		if e != api.OK {
			continue
		}
		took++
		again, e := frame.Encode(f)
		if e != api.OK || !bytes.Equal(b, again) {
			t.Errorf("%x is %v, which comes back as %x, %d", b, f, again, e)
		}
	}
	if took < 10 {
		t.Error("only", took, "were decoded")
	}
}

// P12.3: bytes of which bits within one byte are turned, in any choice, at any place, are decoded as nothing.
func TestTurned(t *testing.T) {
	l := few()
	for _, p := range pairs() {
		l = append(l, frame.Frame{Kind: p[0], Seq: 0x01020304, N: p[1], L: mixed(5, counts[p])})
	}
	for _, f := range l {
		b := plain(f)
		for i := range b {
			for x := 1; x < 256; x++ {
				b[i] ^= byte(x)
				if g, e := frame.Decode(b); e == api.OK || len(g.L) != 0 || g.Kind != 0 {
					t.Fatalf("%x, of which byte %d is turned by %x, is %v, %d", b, i, x, g, e)
				}
				b[i] ^= byte(x)
			}
		}
	}
}

// Memory: what is handed in stays as it was, the room behind its end, too.
func TestStays(t *testing.T) {
	for _, f := range few() {
		room := append(slices.Clone(f.L), mixed(3, 9)...)
		was := slices.Clone(room)
		f.L = room[:len(f.L)]
		g := f
		frame.Right(f)
		frame.Same(f, g)
		frame.Encode(f)
		if !slices.Equal(room, was) || len(f.L) != len(g.L) {
			t.Errorf("%v has become %v", was, room)
		}
		b := append(plain(f), "behind the end"...)
		before := slices.Clone(b)
		for n := range len(b) {
			frame.Decode(b[:n])
		}
		if !bytes.Equal(b, before) {
			t.Errorf("%x has become %x", before, b)
		}
	}
}

// Memory: an answer shares none, spare room too, with what was handed in, or with another answer.
func TestApart(t *testing.T) {
	for _, f := range few() {
		f.L = slices.Clone(f.L)
		want := plain(f)
		a, _ := frame.Encode(f)
		b, _ := frame.Encode(f)
		spoil(a[:cap(a)], 0xa5)
		if !bytes.Equal(b, want) {
			t.Errorf("bytes have become %x", b)
		}
		c, _ := frame.Decode(b)
		d, _ := frame.Decode(b)
		spoil(b[:cap(b)], 0x5a)
		spoil(c.L[:cap(c.L)], -1)
		if !frame.Same(d, f) {
			t.Errorf("%v has become %v", f, d)
		}
		spoil(d.L[:cap(d.L)], 5)
		e, _ := frame.Encode(f)
		spoil(f.L, 1)
		if !bytes.Equal(e, want) {
			t.Errorf("bytes have become %x", e)
		}
	}
}

// spoil sets all of a list to x.
func spoil[T any](l []T, x T) {
	for i := range l {
		l[i] = x
	}
}

// One answer: the same is told again, whatever was asked before, and however much room there is behind the end.
func TestOneAnswer(t *testing.T) {
	for _, f := range good() {
		a, e := frame.Encode(f)
		g := f
		g.L = append(make([]int, 0, 100), f.L...)
		frame.Encode(frame.Frame{})
		b, d := frame.Encode(g)
		if !bytes.Equal(a, b) || e != d {
			t.Errorf("Encode of %v is %x, then %x", f, a, b)
		}
		frame.Decode(nil)
		h, _ := frame.Decode(a)
		k, _ := frame.Decode(append(make([]byte, 0, 2*len(a)), a...))
		if !frame.Same(h, k) {
			t.Errorf("Decode of %x is %v, then %v", a, h, k)
		}
	}
}
