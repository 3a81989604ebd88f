package env_test

import (
	"math"
	"math/big"
	"testing"

	"couplet/api"
	"couplet/env"
)

const (
	one   = api.Unit
	half  = api.Unit / 2
	top   = api.Max
	whole = top / one // the greatest whole number that may be
)

type num = env.Num

var bad = num{Bad: true}

// beyond are numbers that fx does not let be.
var beyond = []int{top + 1, -top - 1, 2 * top, -2 * top, api.MaxWide, -api.MaxWide, math.MaxInt, math.MinInt}

// wrongs are numbers of which nothing is told: Bad ones, the fields beside it set or not; bounds out of order, by
// their values or by each other; bounds that fx does not let be.
func wrongs() []num {
	l := []num{
		bad, {V: one, Low: one, High: one, Bad: true}, {V: 2 * one, Low: one, High: 3 * one, Bad: true},
		{V: one, Low: 2 * one, High: 3 * one}, {V: 4 * one, Low: 2 * one, High: 3 * one}, {V: one, Low: one + 1, High: one + 1}, {V: one, Low: one - 1, High: one - 1},
		{V: 2 * one, Low: 3 * one, High: one}, {V: one, Low: one + 1, High: one - 1}, {V: one, Low: 2 * one, High: one},
		{V: one, Low: one, High: top + 1}, {V: one, Low: one, High: math.MaxInt}, {V: -one, Low: -top - 1, High: -one}, {V: -one, Low: math.MinInt, High: -one}, {V: 0, Low: math.MinInt, High: math.MaxInt},
	}
	for _, n := range beyond {
		l = append(l, num{V: n, Low: n, High: n})
	}
	return l
}

// fines are enclosed numbers: points and wider ones, above and below 0, about it and at it, and at Max.
func fines() []num {
	l := []num{
		{}, {V: 1, Low: 1, High: 1}, {V: one, Low: one, High: one}, {V: top, Low: top, High: top}, {V: top - 1, Low: top - 1, High: top - 1}, {V: 3, Low: 3, High: 3},
		{V: one, Low: one - 2, High: one + 2}, {V: 3 * one, Low: half, High: 5*one + 1}, {V: half, Low: 1, High: half}, {V: 7, Low: 7, High: one},
		{V: top - 1, Low: top - 2, High: top}, {V: top, Low: 1, High: top}, {V: whole, Low: whole - 1, High: whole + 1},
		{V: 0, Low: 0, High: 5}, {V: 5, Low: 0, High: one}, {V: top / 2, Low: 0, High: top},
	}
	for _, a := range l {
		l = append(l, num{V: -a.V, Low: -a.High, High: -a.Low})
	}
	return append(l, num{V: 0, Low: -1, High: 1}, num{V: 1, Low: -2, High: one}, num{V: -half, Low: -one, High: 3}, num{V: 0, Low: -top, High: top}, num{V: top, Low: -1, High: top})
}

// mixed are enclosed numbers of all lengths and widths, always the same ones.
func mixed(count int) []num {
	x := uint64(0x9e3779b97f4a7c15)
	next := func() int {
		x ^= x << 13
		x ^= x >> 7
		x ^= x << 17
		return int(x >> 14 >> (x % 50))
	}
	var l []num
	for range count {
		v := next()
		if x>>61&1 == 1 {
			v = -v
		}
		l = append(l, num{V: v, Low: max(v-next(), -top), High: min(v+next(), top)})
	}
	return l
}

// deed is something that is told of one or two numbers: by the program, and of exact ones.
type deed struct {
	name  string
	tell  func(a, b num) num
	exact func(x, y *big.Rat) *big.Rat
}

func deeds() []deed {
	unit := rat(one, 1)
	return []deed{
		{"Add", num.Add, func(x, y *big.Rat) *big.Rat { return new(big.Rat).Add(x, y) }},
		{"Sub", num.Sub, func(x, y *big.Rat) *big.Rat { return new(big.Rat).Sub(x, y) }},
		{"Mul", num.Mul, func(x, y *big.Rat) *big.Rat { z := new(big.Rat).Mul(x, y); return z.Quo(z, unit) }},
		{"Div", num.Div, func(x, y *big.Rat) *big.Rat { z := new(big.Rat).Mul(x, unit); return z.Quo(z, y) }},
	}
}

func rat(a, b int) *big.Rat {
	return big.NewRat(int64(a), int64(b))
}

func floor(x *big.Rat) *big.Int {
	return new(big.Int).Div(x.Num(), x.Denom())
}

// rounded is an exact number, rounded by the words of layer 1.
func rounded(x *big.Rat, mode int) *big.Int {
	switch mode {
	case api.Down:
		return floor(x)
	case api.Up:
		n := floor(new(big.Rat).Neg(x))
		return n.Neg(n)
	}
	x = new(big.Rat).Add(x, rat(1, 2))
	n := floor(x)
	if x.IsInt() && n.Bit(0) == 1 {
		n.Sub(n, big.NewInt(1))
	}
	return n
}

// may tells whether fx lets a number be.
func may(n *big.Int) bool {
	return n.CmpAbs(big.NewInt(top)) <= 0
}

// wanted is what the document asks of two numbers that are fine: it takes the bounds of all four corners, of which
// sums and differences have their ends at two.
func wanted(d deed, a, b num) num {
	if d.name == "Div" && b.Low <= 0 && b.High >= 0 {
		return bad
	}
	v := rounded(d.exact(rat(a.V, 1), rat(b.V, 1)), api.Even)
	var low, high *big.Int
	for _, n := range []int{a.Low, a.High} {
		for _, m := range []int{b.Low, b.High} {
			x := d.exact(rat(n, 1), rat(m, 1))
			if down := rounded(x, api.Down); low == nil || down.Cmp(low) < 0 {
				low = down
			}
			if up := rounded(x, api.Up); high == nil || up.Cmp(high) > 0 {
				high = up
			}
		}
	}
	if !may(v) || !may(low) || !may(high) {
		return bad
	}
	return num{V: int(v.Int64()), Low: int(low.Int64()), High: int(high.Int64())}
}

// root is the root of a number in units, rounded by the words of layer 1.
func root(a, mode int) int {
	p := new(big.Int).Mul(big.NewInt(int64(a)), big.NewInt(one))
	n := new(big.Int)
	switch {
	case mode == api.Down || a == 0:
		n.Sqrt(p)
	case mode == api.Up:
		n.Sqrt(p.Sub(p, big.NewInt(1)))
		n.Add(n, big.NewInt(1))
	default:
		// Twice the root, and 1, halved; half way lies no root of a whole number.
		n.Sqrt(p.Lsh(p, 2))
		n.Rsh(n.Add(n, big.NewInt(1)), 1)
	}
	return int(n.Int64())
}

// P3.1: points, up to the last one that may be; the Bad one.
func TestPointWrong(t *testing.T) {
	for _, n := range []int{0, 1, -1, one, -one, half, top - 1, top, 1 - top, -top} {
		if a := env.Point(n); a != (num{V: n, Low: n, High: n}) {
			t.Error("Point", n, "is", a)
		}
	}
	for _, n := range beyond {
		if a := env.Point(n); a != bad {
			t.Error("Point", n, "is", a)
		}
	}
	if a := env.Wrong(); a != bad {
		t.Error("Wrong is", a)
	}
}

// P3.1: which numbers are fine.
func TestFine(t *testing.T) {
	for _, a := range append(fines(), mixed(200)...) {
		if !a.Fine() {
			t.Error(a, "is fine")
		}
	}
	for _, a := range wrongs() {
		if a.Fine() {
			t.Error(a, "is not fine")
		}
	}
}

// P3.1: whole numbers, whatever they are asked of.
func TestOf(t *testing.T) {
	for _, a := range append(fines()[:8], wrongs()...) {
		for n, want := range map[int]int{0: 0, 1: one, -1: -one, 3: 3 * one, whole: top, -whole: -top} {
			if b := a.Of(n); b != (num{V: want, Low: want, High: want}) {
				t.Error(a, "Of", n, "is", b)
			}
		}
		// Times one, some of these wrap round to numbers that may be.
		for _, n := range append([]int{whole + 1, -whole - 1, 1 << 40, 1<<40 + 1, 1 << 39}, beyond...) {
			if b := a.Of(n); b != bad {
				t.Error(a, "Of", n, "is", b)
			}
		}
	}
}

// P3.1: signs are of V alone, whatever the bounds are.
func TestSign(t *testing.T) {
	for _, c := range []struct {
		a    num
		want int
	}{
		{num{}, 0}, {num{V: 1, Low: 1, High: 1}, 1}, {num{V: -1, Low: -1, High: -1}, -1}, {num{V: top, Low: -top, High: top}, 1}, {num{V: -1, Low: -one, High: one}, -1},
		{num{V: 0, Low: 0, High: one}, 0}, {num{V: 0, Low: -one, High: 0}, 0}, {num{V: 0, Low: -one, High: one}, 0},
		{num{V: 5, Low: 7, High: 3}, 1}, {num{V: math.MaxInt, Low: math.MaxInt, High: math.MaxInt}, 1}, {num{V: math.MinInt, Low: math.MinInt, High: math.MinInt}, -1},
		{bad, 0}, {num{V: 1, Low: 1, High: 1, Bad: true}, 0}, {num{V: -one, Low: -one, High: -one, Bad: true}, 0},
	} {
		if n := c.a.Sign(); n != c.want {
			t.Error("Sign of", c.a, "is", n)
		}
	}
}

// P3.1: sums, differences, products and quotients by hand, below 0 and about it too.
func TestToldByHand(t *testing.T) {
	up, down, about := num{V: 3 * one, Low: 2 * one, High: 4 * one}, num{V: -3 * one, Low: -4 * one, High: -2 * one}, num{V: one, Low: -one, High: 2 * one}
	third, less := num{V: 5592405, Low: 5592405, High: 5592406}, num{V: -5592405, Low: -5592406, High: -5592405}
	for _, c := range []struct {
		name string
		got  num
		want num
	}{
		{"up + up", up.Add(up), num{V: 6 * one, Low: 4 * one, High: 8 * one}},
		{"up + down", up.Add(down), num{V: 0, Low: -2 * one, High: 2 * one}},
		{"up - up", up.Sub(up), num{V: 0, Low: -2 * one, High: 2 * one}},
		{"up - down", up.Sub(down), num{V: 6 * one, Low: 4 * one, High: 8 * one}},
		{"about - up", about.Sub(up), num{V: -2 * one, Low: -5 * one, High: 0}},
		{"up * up", up.Mul(up), num{V: 9 * one, Low: 4 * one, High: 16 * one}},
		{"up * down", up.Mul(down), num{V: -9 * one, Low: -16 * one, High: -4 * one}},
		{"down * up", down.Mul(up), num{V: -9 * one, Low: -16 * one, High: -4 * one}},
		{"down * down", down.Mul(down), num{V: 9 * one, Low: 4 * one, High: 16 * one}},
		{"up * about", up.Mul(about), num{V: 3 * one, Low: -4 * one, High: 8 * one}},
		{"about * down", about.Mul(down), num{V: -3 * one, Low: -8 * one, High: 4 * one}},
		{"about * about", about.Mul(about), num{V: one, Low: -2 * one, High: 4 * one}},
		{"up / up", up.Div(up), num{V: one, Low: half, High: 2 * one}},
		{"up / down", up.Div(down), num{V: -one, Low: -2 * one, High: -half}},
		{"down / up", down.Div(up), num{V: -one, Low: -2 * one, High: -half}},
		{"down / down", down.Div(down), num{V: one, Low: half, High: 2 * one}},
		{"about / up", about.Div(up), num{V: 5592405, Low: -half, High: one}},
		{"about / down", about.Div(down), num{V: -5592405, Low: -one, High: half}},
		{"1 / 3", env.Point(one).Div(env.Point(3 * one)), third},
		{"-1 / 3", env.Point(-one).Div(env.Point(3 * one)), less},
		{"1 / -3", env.Point(one).Div(env.Point(-3 * one)), less},
		{"-1 / -3", env.Point(-one).Div(env.Point(-3 * one)), third},
		{"a unit * half", env.Point(1).Mul(env.Point(half)), num{V: 0, Low: 0, High: 1}},
		{"3 units * half", env.Point(3).Mul(env.Point(half)), num{V: 2, Low: 1, High: 2}},
		{"a unit * -half", env.Point(1).Mul(env.Point(-half)), num{V: 0, Low: -1, High: 0}},
		{"0 / up", num{}.Div(up), num{}},
		{"0 * about", num{}.Mul(about), num{}},
		{"- up", up.Neg(), down},
		{"- down", down.Neg(), up},
		{"- about", about.Neg(), num{V: -one, Low: -2 * one, High: one}},
		{"- 0", num{}.Neg(), num{}},
	} {
		if c.got != c.want {
			t.Error(c.name, "is", c.got, "not", c.want)
		}
	}
}

// P3.1: all of them, two by two, against exact numbers.
func TestToldExact(t *testing.T) {
	l := append(fines(), mixed(60)...)
	for _, d := range deeds() {
		for _, a := range l {
			for _, b := range l {
				if got, want := d.tell(a, b), wanted(d, a, b); got != want {
					t.Fatal(a, d.name, b, "is", got, "not", want)
				}
			}
		}
	}
}

// P3.1: 0 less a number.
func TestNeg(t *testing.T) {
	for _, a := range append(fines(), mixed(200)...) {
		if b := a.Neg(); b != (num{V: -a.V, Low: -a.High, High: -a.Low}) {
			t.Error("Neg of", a, "is", b)
		}
	}
}

// P3.1: roots by hand, and against exact ones; the Low just at 0.
func TestRoot(t *testing.T) {
	for a, want := range map[num]num{
		{}: {}, env.Point(one): env.Point(one), env.Point(one / 4): env.Point(half), env.Point(1): env.Point(4096),
		env.Point(2 * one):                    {V: 23726566, Low: 23726566, High: 23726567},
		env.Point(3 * one):                    {V: 29058991, Low: 29058990, High: 29058991},
		env.Point(top):                        env.Point(1 << 37),
		{V: one, Low: 0, High: 4 * one}:       {V: one, Low: 0, High: 2 * one},
		{V: 2, Low: 0, High: 3}:               {V: 5793, Low: 0, High: 7095},
		{V: 4 * one, Low: 2, High: top}:       {V: 2 * one, Low: 5792, High: 1 << 37},
		{V: 0, Low: 0, High: 1}:               {V: 0, Low: 0, High: 4096},
		{V: top - 1, Low: top - 1, High: top}: {V: 1 << 37, Low: 1<<37 - 1, High: 1 << 37},
	} {
		if b := a.Root(); b != want {
			t.Error("Root of", a, "is", b, "not", want)
		}
	}
	for _, a := range append(fines(), mixed(2000)...) {
		want := bad
		if a.Low >= 0 {
			want = num{V: root(a.V, api.Even), Low: root(a.Low, api.Down), High: root(a.High, api.Up)}
		}
		if b := a.Root(); b != want {
			t.Fatal("Root of", a, "is", b, "not", want)
		}
	}
}

// P3.1: the root of what is below 0, by its Low alone too.
func TestRootBelow(t *testing.T) {
	for _, a := range []num{env.Point(-1), env.Point(-one), env.Point(-top), {V: 0, Low: -1, High: 0}, {V: one, Low: -1, High: 2 * one}, {V: top, Low: -top, High: top}} {
		if b := a.Root(); b != bad {
			t.Error("Root of", a, "is", b)
		}
	}
}

// P3.1: a quotient by what encloses 0, at a bound or between them.
func TestDivByNought(t *testing.T) {
	for _, b := range []num{{}, {V: 0, Low: -1, High: 1}, {V: 1, Low: 0, High: 1}, {V: -1, Low: -1, High: 0}, {V: one, Low: -one, High: 2 * one}, {V: top, Low: -top, High: top}, {V: one, Low: 0, High: 2 * one}, {V: -one, Low: -2 * one, High: 0}} {
		for _, a := range fines() {
			if c := a.Div(b); c != bad {
				t.Error(a, "Div", b, "is", c)
			}
		}
	}
	// Just beside 0 it goes.
	if c := env.Point(1).Div(num{V: 2, Low: 1, High: 2}); c != (num{V: half, Low: half, High: one}) {
		t.Error("just above 0:", c)
	}
	if c := env.Point(1).Div(num{V: -2, Low: -2, High: -1}); c != (num{V: -half, Low: -one, High: -half}) {
		t.Error("just below 0:", c)
	}
}

// P3.1: numbers at Max, and one beyond it, by a bound alone too.
func TestAtTheEnd(t *testing.T) {
	unit, near := num{V: 1, Low: 1, High: 1}, num{V: 0, Low: 0, High: 1}
	for _, s := range []int{1, -1} {
		last := env.Point(s * top)
		step := env.Point(s)
		for name, c := range map[string][2]num{
			"Add":          {env.Point(s * (top - 1)).Add(step), last},
			"Add beyond":   {last.Add(step), bad},
			"Sub":          {env.Point(s * (top - 1)).Sub(step.Neg()), last},
			"Sub beyond":   {last.Sub(step.Neg()), bad},
			"Mul":          {last.Mul(env.Point(one)), last},
			"Mul beyond":   {last.Mul(env.Point(one + 1)), bad},
			"Div":          {env.Point(s * whole).Div(unit), last},
			"Div beyond":   {env.Point(s * (whole + 1)).Div(unit), bad},
			"Neg":          {last.Neg(), env.Point(-s * top)},
			"Div to whole": {last.Div(last), env.Point(one)},
		} {
			if c[0] != c[1] {
				t.Error(name, s, "is", c[0], "not", c[1])
			}
		}
	}
	// The value may be, and one of the bounds may not.
	for name, c := range map[string]num{
		"Add up":   env.Point(top).Add(near),
		"Add down": env.Point(-top).Add(near.Neg()),
		"Sub up":   env.Point(top).Sub(near.Neg()),
		"Sub down": env.Point(-top).Sub(near),
		"Mul up":   env.Point(top).Mul(num{V: one, Low: one, High: one + 1}),
		"Mul down": env.Point(-top).Mul(num{V: one, Low: one, High: one + 1}),
		"Div up":   env.Point(top).Div(num{V: one, Low: one - 1, High: one}),
		"Div down": env.Point(-top).Div(num{V: one, Low: one - 1, High: one}),
	} {
		if c != bad {
			t.Error(name, "is", c)
		}
	}
}

// P3.1: the rounding of one bound alone makes a product Bad: half of one, times what is 1 above twice Max.
func TestRoundedBeyond(t *testing.T) {
	a, b := env.Point(3*half), env.Point(750599937895083)
	for _, c := range []num{a.Mul(b), a.Mul(b.Neg()), a.Neg().Mul(b), b.Neg().Mul(a.Neg())} {
		if c != bad {
			t.Error("half a unit beyond Max:", c)
		}
	}
}

// P3.1: wrong numbers, on either side, and on both.
func TestToldOfWrong(t *testing.T) {
	for _, a := range wrongs() {
		for _, d := range deeds() {
			for _, b := range append(fines(), wrongs()...) {
				if c := d.tell(a, b); c != bad {
					t.Error(a, d.name, b, "is", c)
				}
				if c := d.tell(b, a); c != bad {
					t.Error(b, d.name, a, "is", c)
				}
			}
		}
		if b := a.Root(); b != bad {
			t.Error("Root of", a, "is", b)
		}
		if b := a.Neg(); b != bad {
			t.Error("Neg of", a, "is", b)
		}
	}
}

// P3.2: two numbers that meet, just meet, and just do not, either way round.
func TestMeet(t *testing.T) {
	a := num{V: one, Low: one - 2, High: one + 2}
	for _, c := range []struct {
		b    num
		want bool
	}{
		{a, true}, {env.Point(one), true}, {num{V: 0, Low: -top, High: top}, true}, {num{V: one, Low: one - 1, High: one + 1}, true},
		{env.Point(one + 2), true}, {env.Point(one + 3), false}, {env.Point(one - 2), true}, {env.Point(one - 3), false},
		{num{V: one + 9, Low: one + 2, High: top}, true}, {num{V: one + 9, Low: one + 3, High: top}, false},
		{num{V: 0, Low: -top, High: one - 2}, true}, {num{V: 0, Low: -top, High: one - 3}, false}, {num{V: -one, Low: -one - 2, High: -one + 2}, false},
		{bad, false}, {num{V: one, Low: one, High: one, Bad: true}, false},
		{num{V: one, Low: one + 1, High: one - 1}, false}, {num{V: one, Low: one + 1, High: one}, false}, {num{V: one, Low: top, High: -top}, false},
		{num{V: one, Low: math.MinInt, High: math.MaxInt}, true}, {num{V: one, Low: math.MaxInt, High: math.MinInt}, false},
	} {
		if is := env.Meet(a, c.b); is != c.want {
			t.Error("Meet", a, c.b, is)
		}
		if is := env.Meet(c.b, a); is != c.want {
			t.Error("Meet", c.b, a, is)
		}
	}
	if env.Meet(bad, bad) || !env.Meet(num{}, num{}) {
		t.Error("Meet of Bad ones, and of noughts")
	}
}

// P3.2: whether numbers meet, two by two, by trying the bounds.
func TestMeetExact(t *testing.T) {
	l := append(fines(), mixed(100)...)
	for _, a := range l {
		for _, b := range l {
			// If there is a number that both enclose, a bound of one of them is one.
			want := false
			for _, n := range []int{a.Low, a.High, b.Low, b.High} {
				want = want || a.Low <= n && n <= a.High && b.Low <= n && n <= b.High
			}
			if is := env.Meet(a, b); is != want {
				t.Fatal("Meet", a, b, is)
			}
		}
	}
}

// P3.2: fractions just at a bound, and just beyond it.
func TestEncloses(t *testing.T) {
	const most = api.MaxWide
	a := num{V: one, Low: one - 2, High: one + 2}
	third := env.Point(one).Div(env.Point(3 * one))
	for _, c := range []struct {
		a    num
		n, d int
		want bool
	}{
		{a, 1, 1, true}, {a, 2, 2, true}, {a, 2, 1, false}, {a, -1, 1, false}, {a, 0, 1, false},
		{a, one + 2, one, true}, {a, one + 3, one, false}, {a, one - 2, one, true}, {a, one - 3, one, false},
		{a, 1000*(one+2) + 1, 1000 * one, false}, {a, 1000*(one+2) - 1, 1000 * one, true}, {a, 1000*(one-2) - 1, 1000 * one, false}, {a, 1000*(one-2) + 1, 1000 * one, true},
		{a.Neg(), -1, 1, true}, {a.Neg(), 1, 1, false}, {a.Neg(), -one - 2, one, true}, {a.Neg(), -one - 3, one, false}, {a.Neg(), -one + 2, one, true}, {a.Neg(), -one + 3, one, false},
		{a.Neg(), -1000*(one+2) - 1, 1000 * one, false}, {a.Neg(), -1000*(one+2) + 1, 1000 * one, true},
		{third, 1, 3, true}, {third, 2, 6, true}, {third, -1, 3, false}, {third.Neg(), -1, 3, true}, {env.Point(5592405), 1, 3, false}, {env.Point(5592406), 1, 3, false},
		{env.Point(one / 4), 1, 4, true}, {env.Point(-one / 4), -1, 4, true}, {num{}, 0, 1, true}, {num{}, 0, most, true}, {num{}, 1, most, false}, {num{}, -1, most, false},
		{num{V: 0, Low: 0, High: 1}, 1, most, true}, {num{V: 0, Low: -1, High: 0}, -1, most, true}, {num{V: 0, Low: 0, High: 1}, -1, most, false}, {num{V: 0, Low: -1, High: 0}, 1, most, false},
		{env.Point(one), most, most, true}, {env.Point(-one), -most, most, true}, {env.Point(one), most - 1, most, false}, {env.Point(one), most, most - 1, false},
		{num{V: one, Low: one, High: one + 1}, most, most - 1, true}, {num{V: one, Low: one - 1, High: one}, most - 1, most, true},
		{env.Point(top), whole, 1, true}, {env.Point(-top), -whole, 1, true}, {env.Point(top), whole + 1, 1, false}, {env.Point(-top), -whole - 1, 1, false},
		{env.Point(top), whole*one + 1, one, false}, {env.Point(-top), -whole*one - 1, one, false}, {env.Point(top), whole << 35, 1 << 35, true}, {env.Point(top), whole<<35 + 1, 1 << 35, false}, {env.Point(-top), -whole<<35 - 1, 1 << 35, false},
		{num{V: 0, Low: -top, High: top}, most, 1, false}, {num{V: 0, Low: -top, High: top}, -most, 1, false}, {num{V: 0, Low: -top, High: top}, whole<<35 - 1, 1 << 35, true},
		// Times one, this wraps round to 0.
		{num{V: 0, Low: -one, High: one}, 1 << 40, 1, false}, {num{V: 0, Low: -one, High: one}, -1 << 40, 1, false},
	} {
		if is := env.Encloses(c.a, c.n, c.d); is != c.want {
			t.Error("Encloses", c, is)
		}
	}
}

// P3.2: against exact fractions, those of all lengths, and those at the bounds and a hair beside them.
func TestEnclosesExact(t *testing.T) {
	ask := func(a num, n, d int) {
		t.Helper()
		x := rat(n, d)
		x.Mul(x, rat(one, 1))
		want := x.Cmp(rat(a.Low, 1)) >= 0 && x.Cmp(rat(a.High, 1)) <= 0
		if is := env.Encloses(a, n, d); is != want {
			t.Fatal("Encloses", a, n, d, is)
		}
	}
	l := mixed(150)
	for _, a := range append(fines(), l...) {
		for _, b := range l {
			d := max(b.V, -b.V) + 1
			for _, n := range []int{b.Low, b.High, b.Low << 11, b.High << 11, 7 * b.V} {
				ask(a, n, d)
				ask(a, n, api.MaxWide-d)
			}
		}
		for _, bound := range []int{a.Low, a.High} {
			for _, by := range []int{1, 3, 1000} {
				for _, hair := range []int{-1, 0, 1} {
					ask(a, bound*by+hair, one*by)
				}
			}
		}
	}
}

// P3.2: wrong inputs: d that is 0 or below it, n or d beyond what they may be, a number that is not fine.
func TestEnclosesWrong(t *testing.T) {
	const most = api.MaxWide
	wide, halves := num{V: 0, Low: -top, High: top}, env.Point(half)
	for _, d := range []int{0, -1, -2, -one, -most, most + 1, most + 2, math.MaxInt, math.MinInt} {
		for _, n := range []int{0, 1, -1, d, -d, d / 2} {
			if env.Encloses(wide, n, d) || env.Encloses(halves, n, d) || env.Encloses(num{}, n, d) {
				t.Error("Encloses", n, d)
			}
		}
	}
	for _, n := range []int{most + 1, -most - 1, most + 2, math.MaxInt, math.MinInt, math.MinInt + 1} {
		for _, d := range []int{1, 2, 1 << 61, most} {
			if env.Encloses(wide, n, d) {
				t.Error("Encloses", n, d)
			}
		}
	}
	for _, a := range wrongs() {
		for _, n := range []int{0, 1, 2, 3, -1, whole + 1, -whole - 1} {
			if env.Encloses(a, n, 1) {
				t.Error(a, "Encloses", n)
			}
		}
	}
}

// within are some numbers that a encloses: points at its ends and between, and itself with less room.
func within(a num) []num {
	third := (a.High - a.Low) / 3
	return []num{
		a, env.Point(a.V), env.Point(a.Low), env.Point(a.High), env.Point(a.Low + third), env.Point(a.High - third),
		{V: a.Low, Low: a.Low, High: a.V}, {V: a.High, Low: a.V, High: a.High}, {V: a.High - third, Low: a.Low + third, High: a.High - third},
	}
}

// inside fails if what is told is Bad, or not enclosed by what is told of wider ones.
func inside(t *testing.T, got, by num, what ...any) {
	t.Helper()
	if got.Bad || by.Low > got.Low || got.High > by.High || got.Low > got.V || got.V > got.High {
		t.Fatal(what, "is", got, "beside", by)
	}
}

// P3.3: what is told of what two numbers enclose is enclosed by what is told of them.
func TestToldIsEnclosed(t *testing.T) {
	l := append(fines(), mixed(30)...)
	for _, a := range l {
		for _, d := range deeds() {
			for _, b := range l {
				by := d.tell(a, b)
				if by.Bad {
					continue
				}
				for _, x := range within(a) {
					for _, y := range within(b) {
						inside(t, d.tell(x, y), by, x, d.name, y)
					}
				}
			}
		}
		for _, x := range within(a) {
			inside(t, x.Neg(), a.Neg(), "Neg", x)
			if by := a.Root(); !by.Bad {
				inside(t, x.Root(), by, "Root", x)
			}
		}
	}
}

// P3.3: what is exactly so of fractions that two numbers enclose is enclosed by what is told of them.
func TestExactIsEnclosed(t *testing.T) {
	parts := func(a num) []*big.Rat {
		l := []*big.Rat{rat(a.V, 1)}
		for _, k := range []int{0, 1, 2, 6, 7} {
			x := rat(a.High-a.Low, 1)
			x.Mul(x, rat(k, 7))
			l = append(l, x.Add(x, rat(a.Low, 1)))
		}
		return l
	}
	for _, d := range deeds() {
		for _, a := range fines() {
			for _, b := range fines() {
				by := d.tell(a, b)
				if by.Bad {
					continue
				}
				for _, x := range parts(a) {
					for _, y := range parts(b) {
						z := d.exact(x, y)
						if z.Cmp(rat(by.Low, 1)) < 0 || z.Cmp(rat(by.High, 1)) > 0 {
							t.Fatal(x, d.name, y, "is", z, "beside", by)
						}
					}
				}
			}
		}
	}
}

// P3.3: the fraction of whole numbers is enclosed all along, though it is rounded again and again.
func TestFractionsAreEnclosed(t *testing.T) {
	a := num{}
	for i := 1; i <= 12; i++ {
		// The sum of 1 by i(i + 1), up to i, is i by i + 1.
		a = a.Add(a.Of(1).Div(a.Of(i)).Div(a.Of(i + 1)))
		if !env.Encloses(a, i, i+1) || a.High-a.Low > 60 {
			t.Error("the sum of", i, "is", a)
		}
		if r := a.Root(); !env.Encloses(r.Mul(r), i, i+1) {
			t.Error("the root of", a, "is", r)
		}
	}
}
