package fx_test

import (
	"math"
	"math/big"
	"regexp"
	"testing"

	"couplet/api"
	"couplet/fx"
)

const (
	one   = api.Unit
	half  = api.Unit / 2
	top   = api.Max
	whole = top / one // the greatest whole number that may be
)

var (
	modes      = []int{api.Even, api.Down, api.Up}
	wrongModes = []int{-1, 3, 4, 1 << 32, math.MinInt, math.MaxInt}
	beyond     = []int{top + 1, -top - 1, 2 * top, -2 * top, api.MaxWide, -api.MaxWide, api.MaxWide + 1, math.MaxInt, math.MinInt, math.MinInt + 1}
)

// edges are the numbers about 0, one, half of one, and Max, above and below 0.
func edges() []int {
	l := []int{0}
	for _, n := range []int{1, 2, 3, half - 1, half, half + 1, one - 1, one, one + 1, 3 * half, 3 * one, 1 << 37, top / one, top / 2, top/2 + 1, top - one, top - 1, top} {
		l = append(l, n, -n)
	}
	return l
}

// mixed are numbers of all lengths, above and below 0, always the same ones.
func mixed(count int) []int {
	var l []int
	x := uint64(0x9e3779b97f4a7c15)
	for range count {
		x ^= x << 13
		x ^= x >> 7
		x ^= x << 17
		n := int(x >> 13 >> (x % 51))
		if n > top {
			n -= top
		}
		if x>>60&1 == 1 {
			n = -n
		}
		l = append(l, n)
	}
	return l
}

func fraction(a, b int) *big.Rat {
	return big.NewRat(int64(a), int64(b))
}

func floor(x *big.Rat) *big.Int {
	return new(big.Int).Div(x.Num(), x.Denom())
}

// rounded is an exact number, rounded by the words of layer 1.
func rounded(x *big.Rat, mode int) *big.Int {
	switch mode {
	case api.Down:
		return floor(x)
	case api.Up:
		n := floor(new(big.Rat).Neg(x))
		return n.Neg(n)
	}
	x = new(big.Rat).Add(x, fraction(1, 2))
	n := floor(x)
	if x.IsInt() && n.Bit(0) == 1 {
		n.Sub(n, big.NewInt(1))
	}
	return n
}

// rootOf is the root of a whole number, rounded by the words of layer 1.
func rootOf(p *big.Int, mode int) *big.Int {
	n := new(big.Int)
	switch {
	case mode == api.Down || p.Sign() == 0:
		return n.Sqrt(p)
	case mode == api.Up:
		n.Sqrt(n.Sub(p, big.NewInt(1)))
		return n.Add(n, big.NewInt(1))
	}
	// Twice the root, and 1, halved; half way lies no root of a whole number.
	n.Sqrt(n.Lsh(p, 2))
	return n.Rsh(n.Add(n, big.NewInt(1)), 1)
}

type answer func() (int, bool)

// same fails if what is answered is not n, if that may be, or 0 and false, if not.
func same(t *testing.T, n *big.Int, ask answer, what ...any) {
	t.Helper()
	want, wantIs := 0, false
	if n.CmpAbs(big.NewInt(top)) <= 0 {
		want, wantIs = int(n.Int64()), true
	}
	if got, is := ask(); got != want || is != wantIs {
		t.Fatal(what, "is", got, is, "not", want, wantIs)
	}
}

// refused fails if what is answered is not 0 and false.
func refused(t *testing.T, ask answer, what ...any) {
	t.Helper()
	if n, is := ask(); n != 0 || is {
		t.Error(what, "is", n, is)
	}
}

// P2.1: a number may be up to Max, and down to the same below 0.
func TestRight(t *testing.T) {
	for _, n := range edges() {
		if !fx.Right(n) {
			t.Error(n, "may be")
		}
	}
	for _, n := range beyond {
		if fx.Right(n) {
			t.Error(n, "may not be")
		}
	}
}

// P2.1: whole numbers, up to the last one whose number may be.
func TestOf(t *testing.T) {
	for n, want := range map[int]int{0: 0, 1: one, -1: -one, 3: 3 * one, whole: top, -whole: -top, whole - 1: top - one, 1 - whole: one - top} {
		if got, is := fx.Of(n); got != want || !is {
			t.Error("Of", n, "is", got, is)
		}
	}
	// Times one, some of these wrap round to numbers that may be.
	for _, n := range append([]int{whole + 1, -whole - 1, top, -top, 1 << 38, 1 << 39, 1 << 40, 1<<40 + 1, -1 << 40, 1 - 1<<40, 1<<61 + 1}, beyond...) {
		refused(t, func() (int, bool) { return fx.Of(n) }, "Of", n)
	}
}

// P2.1: sums and differences.
func TestAddSub(t *testing.T) {
	for _, c := range []struct{ a, b, sum, less int }{
		{0, 0, 0, 0}, {one, half, 3 * half, half}, {half, one, 3 * half, -half}, {-one, half, -half, -3 * half}, {1, -1, 0, 2},
		{top / 2, top / 2, top, 0}, {-top / 2, -top / 2, -top, 0}, {top, 0, top, top}, {-top, 0, -top, -top},
	} {
		if n, is := fx.Add(c.a, c.b); n != c.sum || !is {
			t.Error("Add", c, n, is)
		}
		if n, is := fx.Sub(c.a, c.b); n != c.less || !is {
			t.Error("Sub", c, n, is)
		}
	}
	l := append(edges(), mixed(200)...)
	for _, a := range l {
		for _, b := range l {
			same(t, big.NewInt(int64(a+b)), func() (int, bool) { return fx.Add(a, b) }, "Add", a, b)
			same(t, big.NewInt(int64(a-b)), func() (int, bool) { return fx.Sub(a, b) }, "Sub", a, b)
		}
	}
}

// P2.1: sums and differences at the very end, on either side of it.
func TestAddSubAtTheEnd(t *testing.T) {
	for _, s := range []int{1, -1} {
		if n, is := fx.Add(s*(top-1), s); n != s*top || !is {
			t.Error("Add", s, n, is)
		}
		if n, is := fx.Sub(s*(top-1), -s); n != s*top || !is {
			t.Error("Sub", s, n, is)
		}
		refused(t, func() (int, bool) { return fx.Add(s*top, s) }, "Add", s)
		refused(t, func() (int, bool) { return fx.Add(s, s*top) }, "Add", s)
		refused(t, func() (int, bool) { return fx.Add(s*top, s*top) }, "Add", s)
		refused(t, func() (int, bool) { return fx.Sub(s*top, -s) }, "Sub", s)
		refused(t, func() (int, bool) { return fx.Sub(s, -s*top) }, "Sub", s)
		refused(t, func() (int, bool) { return fx.Sub(s*top, -s*top) }, "Sub", s)
	}
}

// P2.1: numbers that may not be, though what comes of them may.
func TestAddSubWrong(t *testing.T) {
	for _, n := range beyond {
		for _, m := range []int{0, one, -n, n, n - 1, top, -top} {
			refused(t, func() (int, bool) { return fx.Add(n, m) }, "Add", n, m)
			refused(t, func() (int, bool) { return fx.Add(m, n) }, "Add", m, n)
			refused(t, func() (int, bool) { return fx.Sub(n, m) }, "Sub", n, m)
			refused(t, func() (int, bool) { return fx.Sub(m, n) }, "Sub", m, n)
		}
	}
}

// rounds is what each mode makes of one thing.
type rounds struct{ even, down, up int }

func (r rounds) of(mode int) int {
	return map[int]int{api.Even: r.even, api.Down: r.down, api.Up: r.up}[mode]
}

// P2.1: products by hand, below 0 too.
func TestMulRounds(t *testing.T) {
	for _, c := range []struct {
		a, b int
		rounds
	}{
		{3 * one, half, rounds{3 * half, 3 * half, 3 * half}}, {-3 * one, half, rounds{-3 * half, -3 * half, -3 * half}}, {0, -top, rounds{0, 0, 0}},
		{1, half, rounds{0, 0, 1}}, {3, half, rounds{2, 1, 2}}, {1, half + 1, rounds{1, 0, 1}}, {1, half - 1, rounds{0, 0, 1}},
		{-1, half, rounds{0, -1, 0}}, {3, -half, rounds{-2, -2, -1}}, {-1, half + 1, rounds{-1, -1, 0}}, {-1, -half, rounds{0, 0, 1}},
		{top, one, rounds{top, top, top}}, {-top, one, rounds{-top, -top, -top}}, {top, -1, rounds{-whole, -whole, -whole}},
	} {
		for _, mode := range modes {
			if n, is := fx.Mul(c.a, c.b, mode); n != c.of(mode) || !is {
				t.Error("Mul", c, mode, n, is)
			}
		}
	}
}

// P2.1: quotients by hand, below 0 too.
func TestDivRounds(t *testing.T) {
	for _, c := range []struct {
		a, b int
		rounds
	}{
		{one, 3 * one, rounds{5592405, 5592405, 5592406}}, {2 * one, 3 * one, rounds{11184811, 11184810, 11184811}},
		{-one, 3 * one, rounds{-5592405, -5592406, -5592405}}, {2 * one, -3 * one, rounds{-11184811, -11184811, -11184810}}, {-one, -3 * one, rounds{5592405, 5592405, 5592406}},
		{1, 2 * one, rounds{0, 0, 1}}, {3, 2 * one, rounds{2, 1, 2}}, {-1, 2 * one, rounds{0, -1, 0}}, {-3, 2 * one, rounds{-2, -2, -1}},
		{0, 1, rounds{0, 0, 0}}, {0, -top, rounds{0, 0, 0}}, {3 * one, half, rounds{6 * one, 6 * one, 6 * one}},
		{top, top, rounds{one, one, one}}, {top, -one, rounds{-top, -top, -top}}, {whole, 1, rounds{top, top, top}}, {whole, -1, rounds{-top, -top, -top}},
	} {
		for _, mode := range modes {
			if n, is := fx.Div(c.a, c.b, mode); n != c.of(mode) || !is {
				t.Error("Div", c, mode, n, is)
			}
		}
	}
}

// P2.1: roots by hand.
func TestRootRounds(t *testing.T) {
	for _, c := range []struct {
		a int
		rounds
	}{
		{0, rounds{0, 0, 0}}, {one, rounds{one, one, one}}, {4 * one, rounds{2 * one, 2 * one, 2 * one}}, {one / 4, rounds{half, half, half}},
		{1, rounds{4096, 4096, 4096}}, {2, rounds{5793, 5792, 5793}}, {3, rounds{7094, 7094, 7095}},
		{2 * one, rounds{23726566, 23726566, 23726567}}, {3 * one, rounds{29058991, 29058990, 29058991}},
		{top, rounds{1 << 37, 1 << 37, 1 << 37}}, {top - 1, rounds{1 << 37, 1<<37 - 1, 1 << 37}},
	} {
		for _, mode := range modes {
			if n, is := fx.Root(c.a, mode); n != c.of(mode) || !is {
				t.Error("Root", c, mode, n, is)
			}
		}
	}
}

// P2.1: all edges against each other, and numbers of all lengths.
func TestMulDivRootExact(t *testing.T) {
	l := append(edges(), mixed(120)...)
	for _, mode := range modes {
		for _, a := range l {
			for _, b := range l {
				x := new(big.Rat).Mul(fraction(a, one), fraction(b, 1))
				same(t, rounded(x, mode), func() (int, bool) { return fx.Mul(a, b, mode) }, "Mul", a, b, mode)
				if b == 0 {
					continue
				}
				x = new(big.Rat).Mul(fraction(a, b), fraction(one, 1))
				same(t, rounded(x, mode), func() (int, bool) { return fx.Div(a, b, mode) }, "Div", a, b, mode)
			}
		}
		for _, a := range append(l, mixed(3000)...) {
			a = max(a, -a)
			p := new(big.Int).Mul(big.NewInt(int64(a)), big.NewInt(one))
			same(t, rootOf(p, mode), func() (int, bool) { return fx.Root(a, mode) }, "Root", a, mode)
		}
	}
}

// P2.1: the rounding alone decides whether a product may be.
func TestMulAtTheEnd(t *testing.T) {
	// 3 times b is 2^51 + 1, so that half of one, times both, is half a unit beyond Max.
	const a, b = 3 * half, 750599937895083
	for mode, is := range map[int]bool{api.Even: true, api.Down: true, api.Up: false} {
		want := 0
		if is {
			want = top
		}
		if n, ok := fx.Mul(a, b, mode); n != want || ok != is {
			t.Error("Mul", mode, n, ok)
		}
	}
	for mode, is := range map[int]bool{api.Even: true, api.Down: false, api.Up: true} {
		want := 0
		if is {
			want = -top
		}
		if n, ok := fx.Mul(-a, b, mode); n != want || ok != is {
			t.Error("Mul below 0", mode, n, ok)
		}
	}
}

// P2.1: products and quotients that may not be.
func TestMulDivTooGreat(t *testing.T) {
	for _, mode := range modes {
		for _, s := range []int{1, -1} {
			for _, c := range [][2]int{{top, one + 1}, {top, 2 * one}, {one + 1, top}, {top, top}, {top / 2, 2*one + 1}} {
				refused(t, func() (int, bool) { return fx.Mul(s*c[0], c[1], mode) }, "Mul", s, c, mode)
				refused(t, func() (int, bool) { return fx.Mul(c[0], s*c[1], mode) }, "Mul", s, c, mode)
			}
			for _, c := range [][2]int{{top, one - 1}, {top, 1}, {whole + 1, 1}, {2*whole + 1, 2}, {top, half}} {
				refused(t, func() (int, bool) { return fx.Div(s*c[0], c[1], mode) }, "Div", s, c, mode)
				refused(t, func() (int, bool) { return fx.Div(c[0], s*c[1], mode) }, "Div", s, c, mode)
			}
		}
	}
}

// P2.1: numbers that may not be, though what comes of them may; b of 0; the root below 0.
func TestMulDivRootWrong(t *testing.T) {
	for _, mode := range modes {
		for _, n := range beyond {
			for _, m := range []int{0, 1, -1, n} {
				refused(t, func() (int, bool) { return fx.Mul(n, m, mode) }, "Mul", n, m, mode)
				refused(t, func() (int, bool) { return fx.Mul(m, n, mode) }, "Mul", m, n, mode)
			}
			for _, m := range []int{top, -top, n} {
				refused(t, func() (int, bool) { return fx.Div(n, m, mode) }, "Div", n, m, mode)
				refused(t, func() (int, bool) { return fx.Div(m, n, mode) }, "Div", m, n, mode)
			}
			refused(t, func() (int, bool) { return fx.Div(0, n, mode) }, "Div", 0, n, mode)
			refused(t, func() (int, bool) { return fx.Root(n, mode) }, "Root", n, mode)
		}
		for _, n := range append(edges(), beyond...) {
			refused(t, func() (int, bool) { return fx.Div(n, 0, mode) }, "Div", n, 0, mode)
		}
		for _, n := range []int{-1, -one, -4 * one, -top} {
			refused(t, func() (int, bool) { return fx.Root(n, mode) }, "Root", n, mode)
		}
	}
}

// P2.1: modes that are none of the three.
func TestWrongModes(t *testing.T) {
	for _, mode := range wrongModes {
		for _, n := range []int{0, 1, one, 4 * one} {
			refused(t, func() (int, bool) { return fx.Mul(n, one, mode) }, "Mul", n, mode)
			refused(t, func() (int, bool) { return fx.Div(n, one, mode) }, "Div", n, mode)
			refused(t, func() (int, bool) { return fx.Root(n, mode) }, "Root", n, mode)
		}
	}
}

// P2.2: texts by hand.
func TestText(t *testing.T) {
	for n, want := range map[int]string{
		0: "0", one: "1", -one: "-1", 10 * one: "10", 100 * one: "100", -120 * one: "-120",
		half: "0.5", -half: "-0.5", 3 * half: "1.5", -3 * half: "-1.5", one + one/4: "1.25", 10*one + one/16: "10.0625", one / 32: "0.03125",
		1: "0.000000059604644775390625", -1: "-0.000000059604644775390625", one - 1: "0.999999940395355224609375", one + 1: "1.000000059604644775390625", 2: "0.00000011920928955078125",
		top: "67108864", -top: "-67108864", top - 1: "67108863.999999940395355224609375", 1 - top: "-67108863.999999940395355224609375",
	} {
		if s := fx.Text(n); s != want {
			t.Error("Text", n, "is", s)
		}
	}
}

// P2.2: a text stands for just its number, in the one form that it may have.
func TestTextExact(t *testing.T) {
	form := regexp.MustCompile(`^-?(0|[1-9][0-9]*)(\.[0-9]*[1-9])?$`)
	for _, n := range append(edges(), mixed(3000)...) {
		s := fx.Text(n)
		x, is := new(big.Rat).SetString(s)
		if !form.MatchString(s) || !is || x.Cmp(fraction(n, one)) != 0 || n == 0 && s != "0" {
			t.Fatal("Text", n, "is", s)
		}
	}
}

// P2.2: of a number that may not be, nothing.
func TestTextWrong(t *testing.T) {
	for _, n := range beyond {
		if s := fx.Text(n); s != "" {
			t.Error("Text", n, "is", s)
		}
	}
}
