package frac_test

import (
	"math"
	"math/big"
	"testing"

	"couplet/api"
	"couplet/frac"
)

const (
	top = api.MaxFrac
	far = 1 << 60 // the greatest number that New takes
)

type fraction = frac.Frac

var bad = fraction{Bad: true}

// beyond are numbers that New does not take.
var beyond = []int{far + 1, -far - 1, far + 2, 2 * far, -2 * far, 1 << 62, -1 << 62, math.MaxInt, math.MinInt, math.MinInt + 1}

// wrongs are fractions that may not be: Bad ones, their parts set or not; parts that are not in lowest terms; a D
// that is below 1, of 0 too; parts that are beyond MaxFrac, or that wrap round.
func wrongs() []fraction {
	l := []fraction{
		bad, {N: 1, D: 2, Bad: true}, {N: 0, D: 1, Bad: true}, {N: 4, D: 9, Bad: true}, {N: -1, D: 1, Bad: true},
		{N: 2, D: 4}, {N: -2, D: 4}, {N: 2, D: 2}, {N: 4, D: 4}, {N: 3, D: 3}, {N: 6, D: 9}, {N: top, D: top}, {N: -top, D: top}, {N: top, D: 2}, {N: 2, D: top}, {N: 0, D: 2}, {N: 0, D: top}, {N: 0, D: 4},
		{}, {N: 1}, {N: -1}, {N: top}, {N: 1, D: -2}, {N: -1, D: -2}, {N: 1, D: -1}, {N: 0, D: -1}, {N: 3, D: -top}, {N: 4, D: -9},
		{N: top + 1, D: 1}, {N: -top - 1, D: 1}, {N: 1, D: top + 1}, {N: -1, D: top + 1}, {N: top + 1, D: top}, {N: top, D: top + 1}, {N: far, D: 1}, {N: 1, D: far}, {N: 1 << 32, D: 1}, {N: 1 << 32, D: 3}, {N: 9, D: 1 << 32},
	}
	for _, n := range beyond {
		l = append(l, fraction{N: n, D: 1}, fraction{N: 1, D: n}, fraction{N: n, D: n})
	}
	return l
}

// fines are fractions, above and below 0, and 0; both parts up to MaxFrac.
func fines() []fraction {
	l := []fraction{{N: 0, D: 1}}
	for _, a := range []fraction{
		{N: 1, D: 1}, {N: 2, D: 1}, {N: 3, D: 1}, {N: 1, D: 2}, {N: 1, D: 3}, {N: 2, D: 3}, {N: 4, D: 9}, {N: 25, D: 16}, {N: 7, D: 6}, {N: 15, D: 14},
		{N: 1 << 15, D: 1}, {N: 1, D: 1 << 15}, {N: 1 << 15, D: 1<<15 + 1}, {N: 1 << 29, D: 1}, {N: 1, D: 1 << 29}, {N: top/2 - 1, D: 1}, {N: 3, D: 1 << 29},
		{N: top, D: 1}, {N: 1, D: top}, {N: top - 1, D: 1}, {N: 1, D: top - 1}, {N: top - 1, D: top}, {N: top, D: top - 1}, {N: top - 3, D: top}, {N: top, D: 3}, {N: 3, D: top}, {N: top - 1, D: 2}, {N: top - 3, D: top - 1},
	} {
		if new(big.Int).GCD(nil, nil, whole(a.N), whole(a.D)).Int64() == 1 {
			l = append(l, a, fraction{N: -a.N, D: a.D})
		}
	}
	return l
}

// mixed are fractions of all lengths, always the same ones, small ones among them.
func mixed(count int) []fraction {
	x := uint64(0x9e3779b97f4a7c15)
	next := func() int {
		x ^= x << 13
		x ^= x >> 7
		x ^= x << 17
		return int(x >> 34 >> (x % 30))
	}
	var l []fraction
	for len(l) < count {
		n, d := next(), next()+1
		if x>>61&1 == 1 {
			n = -n
		}
		l = append(l, wanted(big.NewRat(int64(n), int64(d))))
	}
	return l
}

func all(count int) []fraction {
	return append(fines(), mixed(count)...)
}

func whole(n int) *big.Int {
	return big.NewInt(int64(n))
}

func exact(a fraction) *big.Rat {
	return big.NewRat(int64(a.N), int64(a.D))
}

// wanted is an exact number as a fraction, by the document's words.
func wanted(x *big.Rat) fraction {
	if x.Num().CmpAbs(whole(top)) > 0 || x.Denom().Cmp(whole(top)) > 0 {
		return bad
	}
	return fraction{N: int(x.Num().Int64()), D: int(x.Denom().Int64())}
}

// deed is something that is told of two fractions: by the program, and of exact numbers.
type deed struct {
	name  string
	tell  func(a, b fraction) fraction
	exact func(x, y *big.Rat) *big.Rat
}

func deeds() []deed {
	return []deed{
		{"Add", fraction.Add, func(x, y *big.Rat) *big.Rat { return new(big.Rat).Add(x, y) }},
		{"Sub", fraction.Sub, func(x, y *big.Rat) *big.Rat { return new(big.Rat).Sub(x, y) }},
		{"Mul", fraction.Mul, func(x, y *big.Rat) *big.Rat { return new(big.Rat).Mul(x, y) }},
		{"Div", fraction.Div, func(x, y *big.Rat) *big.Rat { return new(big.Rat).Quo(x, y) }},
	}
}

// P4.1: lowest terms by hand, with signs above and below, and 0 by any number.
func TestNewByHand(t *testing.T) {
	for c, want := range map[[2]int]fraction{
		{1, 2}: {N: 1, D: 2}, {2, 4}: {N: 1, D: 2}, {2, -4}: {N: -1, D: 2}, {-2, 4}: {N: -1, D: 2}, {-2, -4}: {N: 1, D: 2},
		{6, 3}: {N: 2, D: 1}, {-6, 3}: {N: -2, D: 1}, {6, -3}: {N: -2, D: 1}, {-6, -3}: {N: 2, D: 1}, {12, 18}: {N: 2, D: 3}, {35, -21}: {N: -5, D: 3}, {5, 5}: {N: 1, D: 1}, {5, -5}: {N: -1, D: 1},
		{0, 1}: {N: 0, D: 1}, {0, -1}: {N: 0, D: 1}, {0, 7}: {N: 0, D: 1}, {0, -7}: {N: 0, D: 1}, {0, top}: {N: 0, D: 1}, {0, top + 1}: {N: 0, D: 1}, {0, far}: {N: 0, D: 1}, {0, -far}: {N: 0, D: 1},
	} {
		if a := frac.New(c[0], c[1]); a != want {
			t.Error("New of", c, "is", a, "not", want)
		}
	}
}

// P4.1: N and D just at MaxFrac, and beyond it; n and d just at 2^60, above and below 0.
func TestNewAtTheEnd(t *testing.T) {
	for c, want := range map[[2]int]fraction{
		{top, 1}: {N: top, D: 1}, {-top, 1}: {N: -top, D: 1}, {1, top}: {N: 1, D: top}, {1, -top}: {N: -1, D: top}, {top, top}: {N: 1, D: 1}, {top, -top + 1}: {N: -top, D: top - 1},
		{top + 1, 1}: bad, {-top - 1, 1}: bad, {1, top + 1}: bad, {1, -top - 1}: bad, {top + 1, -1}: bad, {top + 1, top}: bad, {top, top + 1}: bad, {-top - 1, top + 2}: bad,
		{2 * top, 2}: {N: top, D: 1}, {-2 * top, 2}: {N: -top, D: 1}, {2, 2 * top}: {N: 1, D: top}, {2*top + 2, 2}: bad, {2, 2*top + 2}: bad, {2 * top, 3}: bad, {3, 2 * top}: bad,
		{far, far}: {N: 1, D: 1}, {far, -far}: {N: -1, D: 1}, {-far, far}: {N: -1, D: 1}, {-far, -far}: {N: 1, D: 1},
		{far, top}: {N: top, D: 1}, {-far, top}: {N: -top, D: 1}, {far, -top}: {N: -top, D: 1}, {-far, -top}: {N: top, D: 1}, {top, far}: {N: 1, D: top}, {top, -far}: {N: -1, D: top}, {far, top / 2}: bad, {top / 2, far}: bad, {-far, 1}: bad, {1, -far}: bad,
		{far - 1, far - 1}: {N: 1, D: 1}, {far - 1, 1 - far}: {N: -1, D: 1}, {far - 1, far}: bad,
	} {
		if a := frac.New(c[0], c[1]); a != want {
			t.Error("New of", c, "is", a, "not", want)
		}
	}
}

// P4.1: all numbers about the ends against each other.
func TestNewExact(t *testing.T) {
	l := []int{0}
	for _, n := range []int{1, 2, 3, 4, 5, 6, 12, 30, 97, top / 2, top - 1, top, top + 1, 3 * top, 1 << 31, 1<<32 + 1, far / 3, far / 2, far - top, far - 2, far - 1, far} {
		l = append(l, n, -n)
	}
	for _, a := range mixed(60) {
		l = append(l, a.N, a.D, a.N*a.D)
	}
	for _, n := range l {
		for _, d := range l {
			if d == 0 {
				continue
			}
			if a, want := frac.New(n, d), wanted(big.NewRat(int64(n), int64(d))); a != want {
				t.Fatal("New of", n, d, "is", a, "not", want)
			}
		}
	}
}

// P4.1: wrong inputs of New: just beyond 2^60, in lowest terms or not, and a D of 0; the Bad one.
func TestNewWrong(t *testing.T) {
	for _, n := range beyond {
		for _, m := range append([]int{1, -1, 2, n, -n, n / 2, top, far, -far}, beyond...) {
			if a := frac.New(n, m); a != bad {
				t.Error("New of", n, m, "is", a)
			}
			if a := frac.New(m, n); a != bad {
				t.Error("New of", m, n, "is", a)
			}
		}
		if a := frac.New(0, n); a != bad {
			t.Error("New of 0 by", n, "is", a)
		}
	}
	for _, n := range append([]int{0, 1, -1, 5, top, -top, far, -far}, beyond...) {
		if a := frac.New(n, 0); a != bad {
			t.Error("New of", n, "by 0 is", a)
		}
	}
	if a := frac.Wrong(); a != bad {
		t.Error("Wrong is", a)
	}
}

// P4.1: which fractions may be.
func TestFine(t *testing.T) {
	for _, a := range all(500) {
		if !a.Fine() {
			t.Error(a, "is fine")
		}
	}
	for _, a := range wrongs() {
		if a.Fine() {
			t.Error(a, "is not fine")
		}
	}
}

// P4.1: whole numbers, whatever they are asked of.
func TestOf(t *testing.T) {
	for _, a := range append(fines(), wrongs()...) {
		for _, n := range []int{0, 1, -1, 7, -12, top - 1, top, 1 - top, -top} {
			if b := a.Of(n); b != (fraction{N: n, D: 1}) {
				t.Error(a, "Of", n, "is", b)
			}
		}
		for _, n := range append([]int{top + 1, -top - 1, 1 << 32, far, -far}, beyond...) {
			if b := a.Of(n); b != bad {
				t.Error(a, "Of", n, "is", b)
			}
		}
	}
}

// P4.1: signs; 0 of what may not be.
func TestSign(t *testing.T) {
	for _, a := range all(500) {
		if s := a.Sign(); s != exact(a).Sign() {
			t.Error("Sign of", a, "is", s)
		}
	}
	for _, a := range wrongs() {
		if s := a.Sign(); s != 0 {
			t.Error("Sign of", a, "is", s)
		}
	}
}

// P4.2: sums, differences, products and quotients by hand; where an answer is just at MaxFrac, and just beyond it.
func TestToldByHand(t *testing.T) {
	half, third, two, nought, one := frac.New(1, 2), frac.New(1, 3), frac.New(2, 1), frac.New(0, 1), frac.New(1, 1)
	great, least, near := frac.New(top, 1), frac.New(1, top), frac.New(top-1, top)
	for i, c := range []struct{ got, want fraction }{
		{half.Add(third), fraction{N: 5, D: 6}}, {half.Add(half), one}, {half.Sub(third), fraction{N: 1, D: 6}}, {third.Sub(half), fraction{N: -1, D: 6}}, {half.Sub(half), nought}, {half.Add(half.Neg()), nought},
		{half.Mul(third), fraction{N: 1, D: 6}}, {half.Mul(two), one}, {half.Neg().Mul(two), fraction{N: -1, D: 1}}, {half.Neg().Mul(third.Neg()), fraction{N: 1, D: 6}}, {nought.Mul(third), nought}, {third.Neg().Mul(nought), nought},
		{half.Div(third), fraction{N: 3, D: 2}}, {third.Div(half), fraction{N: 2, D: 3}}, {half.Div(third.Neg()), fraction{N: -3, D: 2}}, {half.Neg().Div(third.Neg()), fraction{N: 3, D: 2}}, {nought.Div(third.Neg()), nought},
		{half.Neg(), fraction{N: -1, D: 2}}, {half.Neg().Neg(), half}, {nought.Neg(), nought}, {great.Neg(), fraction{N: -top, D: 1}}, {least.Neg(), fraction{N: -1, D: top}},
		// What is added is beyond 2^60 here, and comes to a fraction even so.
		{near.Add(near), fraction{N: top - 1, D: top / 2}}, {near.Neg().Sub(near), fraction{N: 1 - top, D: top / 2}}, {near.Add(least), one}, {near.Sub(near.Neg()), fraction{N: top - 1, D: top / 2}},
		{great.Add(nought), great}, {great.Sub(great), nought}, {great.Sub(one).Add(one), great}, {great.Neg().Add(one).Sub(one), great.Neg()}, {great.Add(great.Neg()), nought}, {great.Mul(least), one}, {great.Div(great), one}, {least.Div(least), one}, {great.Mul(one.Neg()), great.Neg()}, {one.Div(great), least}, {one.Div(least), great},
		{frac.New(top/2, 1).Add(frac.New(top/2, 1)), great}, {frac.New(1<<15, 1).Mul(frac.New(1<<15, 1)), great}, {frac.New(1, 1<<15).Mul(frac.New(1, 1<<15)), least}, {frac.New(1, top/2).Mul(half), least}, {frac.New(1, top/2).Sub(least), least},
		{great.Add(one), bad}, {great.Neg().Sub(one), bad}, {great.Add(great), bad}, {great.Sub(great.Neg()), bad}, {great.Add(least), bad}, {great.Sub(half), bad}, {great.Mul(two), bad}, {great.Mul(two.Neg()), bad}, {great.Mul(great), bad}, {great.Div(least), bad}, {great.Div(half), bad}, {great.Div(half.Neg()), bad},
		{least.Mul(half), bad}, {least.Mul(least), bad}, {least.Div(great), bad}, {least.Div(two), bad}, {least.Add(third), bad}, {least.Sub(frac.New(1, top-1)), bad}, {near.Mul(near), bad},
		{half.Div(nought), bad}, {nought.Div(nought), bad}, {great.Div(nought), bad},
	} {
		if c.got != c.want {
			t.Error(i, "is", c.got, "not", c.want)
		}
	}
}

// P4.2: all of them, two by two, against exact numbers.
func TestToldExact(t *testing.T) {
	l := all(150)
	for _, d := range deeds() {
		for _, a := range l {
			for _, b := range l {
				want := bad
				if d.name != "Div" || b.N != 0 {
					want = wanted(d.exact(exact(a), exact(b)))
				}
				if got := d.tell(a, b); got != want {
					t.Fatal(a, d.name, b, "is", got, "not", want)
				}
			}
		}
	}
}

// P4.2: 0 less a fraction.
func TestNeg(t *testing.T) {
	for _, a := range all(500) {
		if b := a.Neg(); b != (fraction{N: -a.N, D: a.D}) {
			t.Error("Neg of", a, "is", b)
		}
	}
}

// P4.2: what may not be, on either side or on both.
func TestToldWrong(t *testing.T) {
	for _, a := range wrongs() {
		for _, d := range deeds() {
			for _, b := range append(fines(), wrongs()...) {
				if got := d.tell(a, b); got != bad {
					t.Fatal(a, d.name, b, "is", got)
				}
				if got := d.tell(b, a); got != bad {
					t.Fatal(b, d.name, a, "is", got)
				}
			}
		}
		if got := a.Neg(); got != bad {
			t.Error("Neg of", a, "is", got)
		}
		if got := a.Root(); got != bad {
			t.Error("Root of", a, "is", got)
		}
	}
}

// P4.2: roots where both parts are squares, or one alone is, or none; of 0, and below it.
func TestRootByHand(t *testing.T) {
	for a, want := range map[fraction]fraction{
		{N: 0, D: 1}: {N: 0, D: 1}, {N: 1, D: 1}: {N: 1, D: 1}, {N: 4, D: 1}: {N: 2, D: 1}, {N: 1, D: 4}: {N: 1, D: 2}, {N: 4, D: 9}: {N: 2, D: 3}, {N: 25, D: 16}: {N: 5, D: 4},
		{N: top, D: 1}: {N: 1 << 15, D: 1}, {N: 1, D: top}: {N: 1, D: 1 << 15}, {N: (1<<15 - 1) * (1<<15 - 1), D: top}: {N: 1<<15 - 1, D: 1 << 15},
		{N: 4, D: 3}: bad, {N: 3, D: 4}: bad, {N: 9, D: 2}: bad, {N: 2, D: 9}: bad, {N: 1, D: 2}: bad, {N: 2, D: 1}: bad, {N: 2, D: 3}: bad, {N: 3, D: 5}: bad, {N: 8, D: 27}: bad, {N: top - 1, D: 1}: bad, {N: 1, D: top - 1}: bad, {N: top, D: top - 1}: bad, {N: top - 1, D: top}: bad,
		{N: -1, D: 1}: bad, {N: -4, D: 1}: bad, {N: -4, D: 9}: bad, {N: -top, D: 1}: bad, {N: -1, D: top}: bad, {N: -2, D: 3}: bad,
	} {
		if r := a.Root(); r != want {
			t.Error("Root of", a, "is", r, "not", want)
		}
	}
}

// P4.2: all squares have their roots, and all that has a root is a square.
func TestRootExact(t *testing.T) {
	isSquare := func(n *big.Int) bool {
		r := new(big.Int).Sqrt(n)
		return r.Mul(r, r).Cmp(n) == 0
	}
	for n := range 1<<15 + 1 {
		for _, a := range []fraction{frac.New(n*n, 1), frac.New(1, (n+1)*(n+1)), frac.New(n*n, (n+1)*(n+1))} {
			if !a.Fine() {
				continue
			}
			if r := a.Root(); !r.Fine() || r.Sign() < 0 || r.Mul(r) != a {
				t.Fatal("Root of", a, "is", r)
			}
		}
		if n > 0 && frac.New(n*n+1, 1).Root() != bad || n > 1 && frac.New(n*n-1, 1).Root() != bad {
			t.Fatal("beside the square of", n, "is none")
		}
	}
	for n := -60; n <= 60; n++ {
		for d := 1; d <= 60; d++ {
			a := frac.New(n, d)
			x := exact(a)
			has := x.Sign() >= 0 && isSquare(x.Num()) && isSquare(x.Denom())
			if r := a.Root(); r.Fine() != has || has && (r.Sign() < 0 || r.Mul(r) != a) || !has && r != bad {
				t.Fatal("Root of", a, "is", r)
			}
		}
	}
}

// P4.3: of two the order does not matter, and of three neither where all may be.
func TestNoOrder(t *testing.T) {
	l, many := all(20), 0
	for _, a := range l {
		for _, b := range l {
			sum, product := a.Add(b), a.Mul(b)
			if b.Add(a) != sum || b.Mul(a) != product {
				t.Fatal(a, b)
			}
			for _, c := range l {
				if left, right := sum.Add(c), a.Add(b.Add(c)); left.Fine() && right.Fine() {
					many++
					if left != right {
						t.Fatal(a, b, c, left, right)
					}
				}
				if left, right := product.Mul(c), a.Mul(b.Mul(c)); left.Fine() && right.Fine() && left != right {
					t.Fatal(a, b, c, left, right)
				}
			}
		}
	}
	if many < 1000 {
		t.Error("too few of these may be:", many)
	}
}

// P4.3: small fractions all may be: any order of three comes to the same.
func TestNoOrderOfSmall(t *testing.T) {
	var l []fraction
	for n := -4; n <= 4; n++ {
		for d := 1; d <= 4; d++ {
			l = append(l, frac.New(n, d))
		}
	}
	for _, a := range l {
		for _, b := range l {
			for _, c := range l {
				sum, product := a.Add(b).Add(c), a.Mul(b).Mul(c)
				if !sum.Fine() || c.Add(b).Add(a) != sum || b.Add(c.Add(a)) != sum || a.Add(c).Add(b) != sum {
					t.Fatal("sums of", a, b, c)
				}
				if !product.Fine() || c.Mul(b).Mul(a) != product || b.Mul(c.Mul(a)) != product || a.Mul(c).Mul(b) != product {
					t.Fatal("products of", a, b, c)
				}
			}
		}
	}
}

// P4.3: what is taken off again, or divided by again, is undone.
func TestUndone(t *testing.T) {
	l, sums, products := all(150), 0, 0
	for _, a := range l {
		for _, b := range l {
			if c := a.Add(b); c.Fine() {
				sums++
				if c.Sub(b) != a || c.Sub(a) != b {
					t.Fatal(a, "and", b, "is", c)
				}
			}
			if c := a.Sub(b); c.Fine() && c.Add(b) != a {
				t.Fatal(a, "less", b, "is", c)
			}
			if c := a.Mul(b); c.Fine() && b.N != 0 {
				products++
				if c.Div(b) != a {
					t.Fatal(a, "times", b, "is", c)
				}
			}
			if c := a.Div(b); c.Fine() && c.Mul(b) != a {
				t.Fatal(a, "by", b, "is", c)
			}
		}
	}
	if sums < 1000 || products < 1000 {
		t.Error("too few of these may be:", sums, products)
	}
}
