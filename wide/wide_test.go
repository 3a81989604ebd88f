package wide_test

import (
	"math"
	"math/big"
	"testing"

	"couplet/api"
	"couplet/wide"
)

const top = api.MaxWide

var modes = []int{api.Even, api.Down, api.Up}

// wrongModes are none of the three.
var wrongModes = []int{-1, 3, 4, math.MinInt, math.MaxInt}

// beyond are numbers that may not be.
var beyond = []int{top + 1, -top - 1, top + 2, -top - 2, math.MaxInt, math.MinInt, math.MinInt + 1}

// edges are numbers that may be: small ones, and those about the powers and roots where words end.
func edges() []int {
	l := []int{0}
	for _, n := range []int{1, 2, 3, 4, 5, 6, 7, 8, 9, 10, 15, 16, 17, 99, 1<<24 - 1, 1 << 24, 1 << 30, 1<<31 - 1, 1 << 31, 1<<31 + 1, 1<<32 - 1, 1 << 32, 1<<32 + 1, 1 << 50, 1<<61 - 1, 1 << 61, 1<<61 + 1, top - 2, top - 1, top} {
		l = append(l, n, -n)
	}
	return l
}

// mixed is a row of numbers of all lengths, the same ones at each run.
func mixed(many int) []int {
	l := make([]int, many)
	x := uint64(88172645463325252)
	for i := range l {
		x ^= x << 13
		x ^= x >> 7
		x ^= x << 17
		n := int(x >> 2 >> (x % 62))
		if n > top {
			n = top
		}
		if x>>1&1 == 1 {
			n = -n
		}
		l[i] = n
	}
	return l
}

func whole(n int) *big.Int { return big.NewInt(int64(n)) }

func product(a, b int) *big.Int { return new(big.Int).Mul(whole(a), whole(b)) }

func told(n *big.Int) (int, bool) {
	if new(big.Int).Abs(n).Cmp(whole(top)) > 0 {
		return 0, false
	}
	return int(n.Int64()), true
}

// nearest goes from the number not above to the nearer one of it and the next, which is not below.
// side tells how the exact one is to the middle of both.
func nearest(low *big.Int, side int) *big.Int {
	if side > 0 || side == 0 && low.Bit(0) == 1 {
		return new(big.Int).Add(low, whole(1))
	}
	return low
}

func wantMulDiv(a, b, c, mode int) (int, bool) {
	p, by := product(a, b), whole(c)
	if c < 0 {
		p.Neg(p)
		by.Neg(by)
	}
	low, rest := new(big.Int).DivMod(p, by, new(big.Int))
	switch {
	case mode == api.Up && rest.Sign() != 0:
		low.Add(low, whole(1))
	case mode == api.Even:
		low = nearest(low, rest.Lsh(rest, 1).Cmp(by))
	}
	return told(low)
}

func wantRoot(a, b, mode int) (int, bool) {
	p := product(a, b)
	if p.Sign() < 0 {
		return 0, false
	}
	low := new(big.Int).Sqrt(p)
	exact := new(big.Int).Mul(low, low).Cmp(p) == 0
	switch {
	case mode == api.Up && !exact:
		low.Add(low, whole(1))
	case mode == api.Even:
		twice := new(big.Int).Lsh(low, 1)
		twice.Add(twice, whole(1))
		low = nearest(low, new(big.Int).Lsh(p, 2).Cmp(twice.Mul(twice, twice)))
	}
	return told(low)
}

func checkMulDiv(t *testing.T, a, b, c, mode int) {
	t.Helper()
	want, wantIs := wantMulDiv(a, b, c, mode)
	if n, is := wide.MulDiv(a, b, c, mode); n != want || is != wantIs {
		t.Fatalf("MulDiv(%d, %d, %d, %d) is %d, %v, not %d, %v", a, b, c, mode, n, is, want, wantIs)
	}
}

func checkRoot(t *testing.T, a, b, mode int) {
	t.Helper()
	want, wantIs := wantRoot(a, b, mode)
	if n, is := wide.Root(a, b, mode); n != want || is != wantIs {
		t.Fatalf("Root(%d, %d, %d) is %d, %v, not %d, %v", a, b, mode, n, is, want, wantIs)
	}
}

// P1.1: a number may be up to MaxWide, and down to the same below 0.
func TestRight(t *testing.T) {
	for _, n := range edges() {
		if !wide.Right(n) {
			t.Error(n, "may be")
		}
	}
	for _, n := range beyond {
		if wide.Right(n) {
			t.Error(n, "may not be")
		}
	}
}

// P1.1: quotients, above and below 0, by hand.
func TestMulDivRounds(t *testing.T) {
	for _, c := range []struct{ a, b, c, even, down, up int }{
		{6, 1, 2, 3, 3, 3}, {-6, 1, 2, -3, -3, -3}, {0, -5, 3, 0, 0, 0}, {5, 0, -3, 0, 0, 0},
		{5, 1, 2, 2, 2, 3}, {7, 1, 2, 4, 3, 4}, {1, 1, 2, 0, 0, 1}, {3, 1, 2, 2, 1, 2},
		{-5, 1, 2, -2, -3, -2}, {7, -1, 2, -4, -4, -3}, {1, 1, -2, 0, -1, 0}, {-3, -1, -2, -2, -2, -1},
		{4, 1, 3, 1, 1, 2}, {5, 1, 3, 2, 1, 2}, {-4, 1, 3, -1, -2, -1}, {5, 1, -3, -2, -2, -1},
		{-4, 1, -3, 1, 1, 2}, {-5, -1, 3, 2, 1, 2},
		{top, top, top, top, top, top}, {-top, top, top, -top, -top, -top}, {top, -top, -top, top, top, top},
		{1, 1, top, 0, 0, 1}, {-1, 1, top, 0, -1, 0},
		{top, top - 1, top, top - 1, top - 1, top - 1}, {top - 1, top - 1, top, top - 2, top - 2, top - 1},
	} {
		for mode, want := range map[int]int{api.Even: c.even, api.Down: c.down, api.Up: c.up} {
			if n, is := wide.MulDiv(c.a, c.b, c.c, mode); n != want || !is {
				t.Error(c, mode, n, is)
			}
		}
	}
}

// P1.1: all edges against each other, and numbers of all lengths.
func TestMulDivExact(t *testing.T) {
	l := edges()
	for _, a := range l {
		for _, b := range l {
			for _, c := range l[1:] {
				for _, mode := range modes {
					checkMulDiv(t, a, b, c, mode)
				}
			}
		}
	}
	m := mixed(3000)
	for i := range len(m) - 2 {
		if m[i+2] == 0 {
			continue
		}
		for _, mode := range modes {
			checkMulDiv(t, m[i], m[i+1], m[i+2], mode)
		}
	}
}

// P1.1: the rounding alone decides whether what comes out may be.
func TestMulDivAtTheEnd(t *testing.T) {
	// a times b is 2^63 - 1: by 2, half a step beyond MaxWide.
	const a, b = 7 * 7 * 73 * 127 * 337, 92737 * 649657
	for _, c := range []struct {
		a, c, mode, want int
		is               bool
	}{
		{a, 2, api.Down, top, true}, {a, 2, api.Up, 0, false}, {a, 2, api.Even, 0, false},
		{-a, 2, api.Down, 0, false}, {-a, 2, api.Up, -top, true}, {-a, 2, api.Even, 0, false},
		{a, -2, api.Down, 0, false}, {a, -2, api.Up, -top, true}, {a, -2, api.Even, 0, false},
		{a, 1, api.Down, 0, false}, {-a, 1, api.Up, 0, false},
	} {
		if n, is := wide.MulDiv(c.a, b, c.c, c.mode); n != c.want || is != c.is {
			t.Error(c, n, is)
		}
	}
	for _, mode := range modes {
		// 253921 times 145295143558111 is 2^65 - 1: by 2, half a step below where a word wraps round.
		for _, c := range [][3]int{{253921, 145295143558111, 2}, {-253921, 145295143558111, 2}, {top, 2, 1}, {top, top, 1}, {top, -top, 1}, {top, 2, -1}, {1 << 61, 2, 1}, {1 << 61, -2, 1}, {1 << 61, 8, 1}, {1 << 61, 8, -1}, {top, top, top - 1}, {top, 4, 1}, {top, 5, 1}} {
			if n, is := wide.MulDiv(c[0], c[1], c[2], mode); n != 0 || is {
				t.Error(c, mode, n, is)
			}
		}
	}
}

// P1.1: wrong inputs.
func TestMulDivWrong(t *testing.T) {
	refused := func(a, b, c, mode int) {
		t.Helper()
		if n, is := wide.MulDiv(a, b, c, mode); n != 0 || is {
			t.Errorf("MulDiv(%d, %d, %d, %d) is %d, %v", a, b, c, mode, n, is)
		}
	}
	for _, mode := range modes {
		for _, n := range beyond {
			refused(n, 1, 4, mode)
			refused(1, n, 4, mode)
			refused(1, 1, n, mode)
			refused(n, 0, 1, mode)
			refused(0, n, 1, mode)
			refused(n, n, n, mode)
		}
		for _, n := range edges() {
			refused(n, 1, 0, mode)
			refused(n, n, 0, mode)
		}
	}
	for _, mode := range wrongModes {
		refused(6, 1, 2, mode)
		refused(7, 1, 2, mode)
		refused(0, 1, 1, mode)
	}
}

// P1.1: products against each other.
func TestCompare(t *testing.T) {
	for _, c := range []struct{ a, b, c, d, want int }{
		{3, 4, 2, 6, 0}, {3, 4, 2, 7, -1}, {3, 4, 2, 5, 1}, {-3, 4, 2, -6, 0}, {-3, 4, 2, -7, 1}, {-3, 4, 2, -5, -1},
		{0, 5, -1, 1, 1}, {0, 5, 1, 1, -1}, {0, -5, 7, 0, 0}, {-2, 2, 0, 3, -1}, {2, 2, 0, -3, 1}, {-2, -3, 1, 6, 0},
		{top, top, top, top, 0}, {top, top, -top, -top, 0}, {top, -top, top, top, -1}, {top, top, top, top - 1, 1}, {-top, top, -top, top - 1, -1},
	} {
		if n := wide.Compare(c.a, c.b, c.c, c.d); n != c.want {
			t.Error(c, n)
		}
	}
	m := append(edges(), mixed(80)...)
	for _, a := range m {
		for i, b := range m {
			c, d := m[(i+7)%len(m)], m[(i*i+3)%len(m)]
			if n := wide.Compare(a, b, c, d); n != product(a, b).Cmp(product(c, d)) {
				t.Fatal(a, b, c, d, n)
			}
			if n := wide.Compare(a, b, b, -a); n != product(a, b).Sign() {
				t.Fatal(a, b, n)
			}
		}
	}
}

// P1.1: of numbers that may not be, Compare tells 0.
func TestCompareWrong(t *testing.T) {
	for _, n := range beyond {
		for _, c := range [][4]int{{n, 1, 3, 1}, {1, n, 3, 1}, {3, 1, n, 1}, {3, 1, 1, n}, {n, 0, 3, 1}, {3, 1, 0, n}} {
			if got := wide.Compare(c[0], c[1], c[2], c[3]); got != 0 {
				t.Error(c, got)
			}
		}
	}
}

// P1.2: roots by hand.
func TestRootRounds(t *testing.T) {
	for _, c := range []struct{ a, b, even, down, up int }{
		{0, 0, 0, 0, 0}, {0, -5, 0, 0, 0}, {-5, 0, 0, 0, 0}, {1, 1, 1, 1, 1}, {2, 1, 1, 1, 2}, {3, 1, 2, 1, 2}, {4, 1, 2, 2, 2},
		{2, 3, 2, 2, 3}, {7, 1, 3, 2, 3}, {12, 1, 3, 3, 4}, {13, 1, 4, 3, 4}, {-2, -8, 4, 4, 4}, {-1, -3, 2, 1, 2},
		{1 << 24, 2 << 24, 23726566, 23726566, 23726567},
		{top, top, top, top, top}, {-top, -top, top, top, top}, {top, top - 1, top - 1, top - 1, top},
		{top, 1, 1 << 31, 1<<31 - 1, 1 << 31}, {top, 4, 1 << 32, 1<<32 - 1, 1 << 32},
	} {
		for mode, want := range map[int]int{api.Even: c.even, api.Down: c.down, api.Up: c.up} {
			if n, is := wide.Root(c.a, c.b, mode); n != want || !is {
				t.Error(c, mode, n, is)
			}
		}
	}
}

// P1.2: all edges, numbers of all lengths, and those about squares and half way between them.
func TestRootExact(t *testing.T) {
	for _, mode := range modes {
		for _, a := range edges() {
			for _, b := range edges() {
				checkRoot(t, a, b, mode)
			}
		}
		m := mixed(3000)
		for i := range len(m) - 1 {
			checkRoot(t, m[i], m[i+1], mode)
		}
		for n := range 2000 {
			checkRoot(t, n, 1, mode)
		}
		for _, r := range []int{1 << 20, 1<<30 - 7, 1<<31 - 2, 3037000 * 700} {
			for by := range 3 {
				checkRoot(t, r*r-1+by, 1, mode)
				checkRoot(t, r*r+r-1+by, 1, mode)
			}
			checkRoot(t, r*r, 4, mode)
			checkRoot(t, r*r-1, r*r+1, mode)
			// n times n + 1 is the last product whose root is nearer to n than to n + 1.
			checkRoot(t, r*r, r*r+1, mode)
			// The next one, n times n + 1 and 1, is a product of numbers that may be where n is a square.
			checkRoot(t, r*r+r+1, r*r-r+1, mode)
		}
	}
}

// P1.2: wrong inputs.
func TestRootWrong(t *testing.T) {
	refused := func(a, b, mode int) {
		t.Helper()
		if n, is := wide.Root(a, b, mode); n != 0 || is {
			t.Errorf("Root(%d, %d, %d) is %d, %v", a, b, mode, n, is)
		}
	}
	for _, mode := range modes {
		for _, n := range beyond {
			refused(n, 1, mode)
			refused(1, n, mode)
			refused(n, -1, mode)
			refused(-1, n, mode)
			refused(n, 0, mode)
			refused(0, n, mode)
			refused(n, n, mode)
		}
		refused(-1, 1, mode)
		refused(1, -1, mode)
		refused(top, -top, mode)
	}
	for _, mode := range wrongModes {
		refused(4, 4, mode)
		refused(2, 1, mode)
		refused(0, 1, mode)
	}
}

// inOrder tells whether three answers, where all are told, stand as P1.3 says.
func inOrder(ask func(mode int) (int, bool)) bool {
	down, isDown := ask(api.Down)
	even, isEven := ask(api.Even)
	up, isUp := ask(api.Up)
	if !isDown || !isEven || !isUp {
		return true
	}
	return down <= even && even <= up && up <= down+1
}

// P1.3: Down, Even and Up, of quotients and of roots.
func TestModesInOrder(t *testing.T) {
	m := append(edges(), mixed(60)...)
	for _, a := range m {
		for _, b := range m {
			if !inOrder(func(mode int) (int, bool) { return wide.Root(a, b, mode) }) {
				t.Fatal("Root", a, b)
			}
			for _, c := range m {
				if !inOrder(func(mode int) (int, bool) { return wide.MulDiv(a, b, c, mode) }) {
					t.Fatal("MulDiv", a, b, c)
				}
			}
		}
	}
}

// P1.3: where the quotient is whole all modes agree, and else Up is just one more than Down.
func TestModesApart(t *testing.T) {
	for n := -50; n <= 50; n++ {
		for c := 1; c <= 12; c++ {
			down, _ := wide.MulDiv(n, 1, c, api.Down)
			even, _ := wide.MulDiv(n, 1, c, api.Even)
			up, _ := wide.MulDiv(n, 1, c, api.Up)
			step := 1
			if n%c == 0 {
				step = 0
			}
			if up != down+step || even != down && even != up {
				t.Error(n, c, down, even, up)
			}
		}
	}
}
