package vec_test

import (
	"math"
	"math/big"
	"slices"
	"strconv"
	"testing"

	"couplet/api"
	"couplet/env"
	"couplet/frac"
	"couplet/vec"
)

const (
	one = api.Unit
	top = api.MaxFrac
)

type (
	fraction = frac.Frac
	num      = env.Num
)

var (
	badFraction = fraction{Bad: true}
	badNum      = num{Bad: true}
)

// step is a kind of numbers that says what was done, of what, and in which order.
type step string

func (a step) Add(b step) step { return "(" + a + "+" + b + ")" }
func (a step) Sub(b step) step { return "(" + a + "-" + b + ")" }
func (a step) Mul(b step) step { return "(" + a + "*" + b + ")" }
func (a step) Div(b step) step { return "(" + a + "/" + b + ")" }
func (a step) Root() step      { return "root" + a }
func (a step) Neg() step       { return "neg" + a }
func (a step) Sign() int       { return 0 }
func (a step) Of(n int) step   { return step(strconv.Itoa(n)) }

// fractions are n by d of each two numbers.
func fractions(parts ...int) []fraction {
	var l []fraction
	for p := range slices.Chunk(parts, 2) {
		l = append(l, frac.New(p[0], p[1]))
	}
	return l
}

func points(l ...int) []num {
	var row []num
	for _, n := range l {
		row = append(row, env.Point(n))
	}
	return row
}

// mixed are whole numbers of at most so much either way, always the same ones.
func mixed(seed uint64, count, most int) []int {
	x := seed*2 + 0x9e3779b97f4a7c15
	var l []int
	for range count {
		x ^= x << 13
		x ^= x >> 7
		x ^= x << 17
		l = append(l, int(x>>16)%(2*most+1)-most)
	}
	return l
}

// with is a row, but for one number of it.
func with[T any](l []T, i int, x T) []T {
	l = slices.Clone(l)
	l[i] = x
	return l
}

// like holds a row against what it should be; none is as good as an empty one.
func like[T comparable](t *testing.T, name string, got, want []T) {
	t.Helper()
	if !slices.Equal(got, want) {
		t.Error(name, "is", got, "not", want)
	}
}

// P5.1: whole numbers of each kind; the greatest that may be, and what is beyond them.
func TestWhole(t *testing.T) {
	like(t, "Whole of fractions", vec.Whole[fraction]([]int{1, -2, 0, top, -top}), []fraction{{N: 1, D: 1}, {N: -2, D: 1}, {N: 0, D: 1}, {N: top, D: 1}, {N: -top, D: 1}})
	like(t, "Whole of enclosed", vec.Whole[num]([]int{1, -2, 0, api.Max / one, -api.Max / one}), points(one, -2*one, 0, api.Max, -api.Max))
	like(t, "Whole of steps", vec.Whole[step]([]int{7, -8, 7, 0, math.MinInt}), []step{"7", "-8", "7", "0", "-9223372036854775808"})
	like(t, "Whole of one", vec.Whole[fraction]([]int{5}), []fraction{{N: 5, D: 1}})
	for _, l := range [][]int{nil, {}} {
		like(t, "Whole of nothing", vec.Whole[fraction](l), nil)
		like(t, "Whole of nothing", vec.Whole[num](l), nil)
	}
	for _, n := range []int{top + 1, -top - 1, math.MaxInt, math.MinInt} {
		like(t, "Whole beside one that may not be", vec.Whole[fraction]([]int{3, n, 4}), []fraction{{N: 3, D: 1}, badFraction, {N: 4, D: 1}})
	}
	for _, n := range []int{api.Max/one + 1, -api.Max/one - 1, math.MaxInt, math.MinInt} {
		like(t, "Whole beside one that may not be", vec.Whole[num]([]int{3, n, 4}), []num{env.Point(3 * one), badNum, env.Point(4 * one)})
	}
}

// gone is what Pairs goes through, till it is told false (at pair number stop, from 0 on), and how often it asked.
func gone[T any](pairs func(yield func(x, y T) bool), stop int) (l [][2]T, asked int) {
	pairs(func(x, y T) bool {
		l = append(l, [2]T{x, y})
		asked++
		return asked <= stop
	})
	return l, asked
}

// P5.1: all pairs, in order, as long as both rows have one: rows of any lengths, and none.
func TestPairs(t *testing.T) {
	a, b := []string{"a", "b", "c", "d", "e"}, []string{"1", "2", "3", "4", "5"}
	for i := range len(a) + 1 {
		for k := range len(b) + 1 {
			var want [][2]string
			for j := range min(i, k) {
				want = append(want, [2]string{a[j], b[j]})
			}
			// The room behind a row's end holds more, of which there is nothing to be seen.
			got, asked := gone(vec.Pairs(a[:i], b[:k]), 9)
			if !slices.Equal(got, want) || asked != len(want) {
				t.Error("Pairs of", i, "and", k, "are", got, "asked", asked)
			}
		}
	}
	for _, none := range [][]string{nil, {}} {
		for _, l := range [][2][]string{{none, a}, {a, none}, {none, none}, {none, nil}, {nil, none}} {
			if got, asked := gone(vec.Pairs(l[0], l[1]), 9); got != nil || asked != 0 {
				t.Error("Pairs of nothing are", got, asked)
			}
		}
	}
	if got, _ := gone(vec.Pairs([]any{nil, 1}, []any{"x", nil}), 9); len(got) != 2 || got[0] != [2]any{nil, "x"} || got[1] != [2]any{1, nil} {
		t.Error("Pairs of any kind are", got)
	}
}

// P5.1: told false at the first pair, in the middle, at the last one: it asks no more.
func TestPairsToldFalse(t *testing.T) {
	a, b := []int{1, 2, 3, 4}, []int{5, 6, 7, 8, 9}
	want := [][2]int{{1, 5}, {2, 6}, {3, 7}, {4, 8}}
	pairs := vec.Pairs(a, b)
	for stop := range want {
		for range 2 { // what was left can be gone through again, from the first one on
			if got, asked := gone(pairs, stop); !slices.Equal(got, want[:stop+1]) || asked != stop+1 {
				t.Error("Pairs told false at", stop, "are", got, "asked", asked)
			}
		}
		var got [][2]int
		for x, y := range pairs {
			got = append(got, [2]int{x, y})
			if x == a[stop] {
				break
			}
		}
		if !slices.Equal(got, want[:stop+1]) {
			t.Error("Pairs left at", stop, "are", got)
		}
	}
	if got, asked := gone(vec.Pairs(a[:1], b), 0); asked != 1 || got[0] != want[0] {
		t.Error("Pairs of one, told false, are", got, asked)
	}
	pairs(nil)
	vec.Pairs[int](nil, nil)(nil)
}

// P5.1: what was handed in is not kept: it may change ahead of the first pair, and between two.
func TestPairsKeepNothing(t *testing.T) {
	a, b := []int{1, 2, 3}, []int{4, 5, 6}
	pairs := vec.Pairs(a, b)
	a[0], b[2] = 100, 600
	var got [][2]int
	for x, y := range pairs {
		got = append(got, [2]int{x, y})
		a[1], b[1] = 200, 500
	}
	if !slices.Equal(got, [][2]int{{1, 4}, {2, 5}, {3, 6}}) {
		t.Error("Pairs of what has changed are", got)
	}
}

// P5.1, P5.2: what is done, and in which order.
func TestSteps(t *testing.T) {
	a, b := []step{"a", "b", "c"}, []step{"x", "y", "z"}
	for i, want := range []step{"0", "(0+a)", "((0+a)+b)", "(((0+a)+b)+c)"} {
		if got := vec.Sum(a[:i]); got != want {
			t.Error("Sum is", got, "not", want)
		}
	}
	for i, want := range []step{"0", "(0+(a*x))", "((0+(a*x))+(b*y))", "(((0+(a*x))+(b*y))+(c*z))"} {
		for _, got := range []step{vec.Dot(a[:i], b[:i]), vec.Dot(a[:i], b), vec.Dot(a, b[:i])} {
			if got != want {
				t.Error("Dot is", got, "not", want)
			}
		}
	}
	sums, less, times := []step{"(a+x)", "(b+y)", "(c+z)"}, []step{"(a-x)", "(b-y)", "(c-z)"}, []step{"(a*k)", "(b*k)", "(c*k)"}
	for i := range 4 {
		for _, l := range [][2][]step{{a[:i], b[:i]}, {a[:i], b}, {a, b[:i]}} {
			like(t, "Add", vec.Add(l[0], l[1]), sums[:i])
			like(t, "Sub", vec.Sub(l[0], l[1]), less[:i])
		}
		like(t, "Scale", vec.Scale(a[:i], "k"), times[:i])
	}
}

// P5.1, P5.2: rows of no number, nil and empty, on either side.
func TestNothing(t *testing.T) {
	row, wide := fractions(1, 2, 3, 4), points(one, 2*one)
	for _, none := range [][]fraction{nil, {}} {
		for _, l := range [][2][]fraction{{none, row}, {row, none}, {none, none}, {none, nil}} {
			if got := vec.Dot(l[0], l[1]); got != frac.New(0, 1) {
				t.Error("Dot of nothing is", got)
			}
			like(t, "Add of nothing", vec.Add(l[0], l[1]), nil)
			like(t, "Sub of nothing", vec.Sub(l[0], l[1]), nil)
		}
		if got := vec.Sum(none); got != frac.New(0, 1) {
			t.Error("Sum of nothing is", got)
		}
		like(t, "Scale of nothing", vec.Scale(none, badFraction), nil)
	}
	for _, none := range [][]num{nil, {}} {
		if a, b, c := vec.Sum(none), vec.Dot(none, wide), vec.Dot(wide, none); a != env.Point(0) || b != env.Point(0) || c != env.Point(0) {
			t.Error("of nothing enclosed:", a, b, c)
		}
		like(t, "Add of nothing", vec.Add(none, wide), nil)
		like(t, "Sub of nothing", vec.Sub(wide, none), nil)
		like(t, "Scale of nothing", vec.Scale(none, badNum), nil)
	}
}

// P5.1, P5.2: fractions by hand, with rows of one number and of unlike lengths.
func TestFractions(t *testing.T) {
	a, b := fractions(1, 2, -2, 3, 5, 1), fractions(1, 3, 3, 4)
	for i, c := range []struct{ got, want fraction }{
		{vec.Dot(vec.Whole[fraction]([]int{1, 2}), vec.Whole[fraction]([]int{3, 4})), fraction{N: 11, D: 1}},
		{vec.Sum(a), fraction{N: 29, D: 6}}, {vec.Sum(a[:1]), fraction{N: 1, D: 2}}, {vec.Sum(a[:2]), fraction{N: -1, D: 6}},
		{vec.Dot(a, b), fraction{N: -1, D: 3}}, {vec.Dot(b, a), fraction{N: -1, D: 3}}, {vec.Dot(a[:1], b), fraction{N: 1, D: 6}}, {vec.Dot(b, b), fraction{N: 97, D: 144}},
	} {
		if c.got != c.want {
			t.Error(i, "is", c.got, "not", c.want)
		}
	}
	like(t, "Add", vec.Add(a, b), fractions(5, 6, 1, 12))
	like(t, "Add", vec.Add(b, a), fractions(5, 6, 1, 12))
	like(t, "Add of one", vec.Add(b[1:], a[2:]), fractions(23, 4))
	like(t, "Sub", vec.Sub(a, b), fractions(1, 6, -17, 12))
	like(t, "Sub", vec.Sub(b, a), fractions(-1, 6, 17, 12))
	like(t, "Sub of itself", vec.Sub(a, a), fractions(0, 1, 0, 1, 0, 1))
	like(t, "Scale", vec.Scale(a, frac.New(-3, 2)), fractions(-3, 4, 1, 1, -15, 2))
	like(t, "Scale by 0", vec.Scale(a, frac.New(0, 1)), fractions(0, 1, 0, 1, 0, 1))
	like(t, "Scale of one", vec.Scale(b[:1], frac.New(3, 1)), fractions(1, 1))
}

// P5.1, P5.2: enclosed numbers by hand: bounds add up, and products are rounded away from each other.
func TestEnclosed(t *testing.T) {
	if got := vec.Dot(vec.Whole[num]([]int{1, 2}), vec.Whole[num]([]int{3, 4})); got != env.Point(11*one) {
		t.Error("Dot is", got)
	}
	a, b := []num{{V: 4, Low: 2, High: 5}, {V: -one, Low: -2 * one, High: one}, {V: 7, Low: 7, High: 7}}, points(3, 2*one)
	if got := vec.Sum(a); got != (num{V: 11 - one, Low: 9 - 2*one, High: 12 + one}) {
		t.Error("Sum is", got)
	}
	// 4 units by 3 units is far less than half a unit; so it is of the bounds, all above 0.
	if got := vec.Dot(a, b); got != (num{V: -2 * one, Low: -4 * one, High: 2*one + 1}) {
		t.Error("Dot is", got)
	}
	like(t, "Add", vec.Add(a, b), []num{{V: 7, Low: 5, High: 8}, {V: one, Low: 0, High: 3 * one}})
	like(t, "Sub", vec.Sub(a, b), []num{{V: 1, Low: -1, High: 2}, {V: -3 * one, Low: -4 * one, High: -one}})
	like(t, "Sub", vec.Sub(b, a), []num{{V: -1, Low: -2, High: 1}, {V: 3 * one, Low: one, High: 4 * one}})
	like(t, "Scale", vec.Scale(a, env.Point(one/2)), []num{{V: 2, Low: 1, High: 3}, {V: -one / 2, Low: -one, High: one / 2}, {V: 4, Low: 3, High: 4}})
	like(t, "Scale of one", vec.Scale(a[:1], env.Point(-one)), []num{{V: -4, Low: -5, High: -2}})
}

// P5.1, P5.2: rows of many lengths, of whole numbers, against exact ones.
func TestExact(t *testing.T) {
	for n := range 40 {
		l, k := mixed(uint64(n), n, 1000), mixed(uint64(n)+99, n+n%3, 1000)
		sum, dot := new(big.Int), new(big.Int)
		for i, x := range l {
			sum.Add(sum, big.NewInt(int64(x)))
			dot.Add(dot, new(big.Int).Mul(big.NewInt(int64(x)), big.NewInt(int64(k[i]))))
		}
		s, d := int(sum.Int64()), int(dot.Int64())
		a, b := vec.Whole[fraction](l), vec.Whole[fraction](k)
		if x, y := vec.Sum(a), vec.Dot(a, b); x != frac.New(s, 1) || y != frac.New(d, 1) {
			t.Error("of fractions:", l, k, x, y)
		}
		v, w := vec.Whole[num](l), vec.Whole[num](k)
		if x, y := vec.Sum(v), vec.Dot(v, w); x != env.Point(s*one) || y != env.Point(d*one) {
			t.Error("of enclosed:", l, k, x, y)
		}
		for i, x := range vec.Add(a, b) {
			if x != frac.New(l[i]+k[i], 1) || vec.Sub(a, b)[i] != frac.New(l[i]-k[i], 1) || vec.Scale(a, b[0])[i] != frac.New(l[i]*k[0], 1) {
				t.Error("of fractions:", l[i], k[i], x)
			}
		}
		for i, x := range vec.Add(v, w) {
			if x != env.Point((l[i]+k[i])*one) || vec.Sub(v, w)[i] != env.Point((l[i]-k[i])*one) || vec.Scale(v, w[0])[i] != env.Point(l[i]*k[0]*one) {
				t.Error("of enclosed:", l[i], k[i], x)
			}
		}
		if len(vec.Add(a, b)) != n || len(vec.Sub(w, v)) != n || len(vec.Scale(b, frac.New(1, 1))) != len(k) {
			t.Error("lengths of", n)
		}
	}
}

// P5.1: enclosed quotients, which have no exact units: the exact sum of products lies between the bounds.
func TestEnclosesExact(t *testing.T) {
	for n := 1; n < 30; n++ {
		a, b, exact := []num{}, []num{}, new(big.Rat)
		for i, x := range mixed(uint64(n), n, 50) {
			a = append(a, env.Point(x*one).Div(env.Point(7*one)))
			b = append(b, env.Point(one).Div(env.Point((i%5+1)*one)))
			exact.Add(exact, big.NewRat(int64(x), int64(7*(i%5+1))))
		}
		got := vec.Dot(a, b)
		if !env.Encloses(got, int(exact.Num().Int64()), int(exact.Denom().Int64())) || got.High-got.Low > 40*60 {
			t.Error("Dot is", got, "and exactly", exact)
		}
	}
}

// P5.1: the order of what is added is seen where a sum on its way may not be.
func TestSumOnItsWay(t *testing.T) {
	great, least := fractions(top, 1, 1, 1, -1, 1), fractions(top, 1, -1, 1, 1, 1)
	if got := vec.Sum(great); got != badFraction {
		t.Error("Sum is", got)
	}
	if got := vec.Sum(least); got != frac.New(top, 1) {
		t.Error("Sum is", got)
	}
	if a, b := vec.Dot(great, fractions(1, 1, 1, 1, 1, 1)), vec.Dot(least, fractions(1, 1, 1, 1, 1, 1)); a != badFraction || b != frac.New(top, 1) {
		t.Error("Dots are", a, b)
	}
	if got := vec.Sum(points(api.Max, 1, -1)); got != badNum {
		t.Error("Sum is", got)
	}
	if got := vec.Sum(points(api.Max, -1, 1)); got != env.Point(api.Max) {
		t.Error("Sum is", got)
	}
	if a, b := vec.Dot(points(api.Max, 1, -1), points(one, one, one)), vec.Dot(points(api.Max, -1, 1), points(one, one, one)); a != badNum || b != env.Point(api.Max) {
		t.Error("Dots are", a, b)
	}
}

// P5.1, P5.2: sums, differences and products that may not be are Bad, and the others beside them are not.
func TestMayNotBe(t *testing.T) {
	a, b := fractions(1, 1, top, 1, 2, 1), fractions(1, 1, 2, 1, 2, 1)
	like(t, "Add", vec.Add(a, b), []fraction{{N: 2, D: 1}, badFraction, {N: 4, D: 1}})
	like(t, "Sub", vec.Sub(vec.Scale(a, frac.New(-1, 1)), b), []fraction{{N: -2, D: 1}, badFraction, {N: -4, D: 1}})
	like(t, "Scale", vec.Scale(a, frac.New(2, 1)), []fraction{{N: 2, D: 1}, badFraction, {N: 4, D: 1}})
	if got := vec.Dot(a, b); got != badFraction {
		t.Error("Dot is", got)
	}
	v, w := points(one, api.Max, 2*one), points(one, 2*one, 2*one)
	like(t, "Add", vec.Add(v, w), []num{env.Point(2 * one), badNum, env.Point(4 * one)})
	like(t, "Sub", vec.Sub(vec.Scale(v, env.Point(-one)), w), []num{env.Point(-2 * one), badNum, env.Point(-4 * one)})
	like(t, "Scale", vec.Scale(v, env.Point(2*one)), []num{env.Point(2 * one), badNum, env.Point(4 * one)})
	if got := vec.Dot(v, w); got != badNum {
		t.Error("Dot is", got)
	}
}

// rowsOfWrong puts each wrong number at each place of a row, of one number and of more.
func rowsOfWrong[T interface {
	comparable
	vec.Field[T]
}](t *testing.T, row []T, bad T, wrongs []T) {
	for n := 1; n <= len(row); n++ {
		good := row[:n]
		for i := range good {
			for _, wrong := range wrongs {
				l := with(good, i, wrong)
				for _, got := range []T{vec.Sum(l), vec.Dot(l, good), vec.Dot(good, l), vec.Dot(l, l), vec.Dot(l, row)} {
					if got != bad {
						t.Error("of", l, "it is", got)
					}
				}
				like(t, "Add", vec.Add(l, good), with(vec.Add(good, good), i, bad))
				like(t, "Add", vec.Add(good, l), with(vec.Add(good, good), i, bad))
				like(t, "Sub", vec.Sub(l, good), with(vec.Sub(good, good), i, bad))
				like(t, "Sub", vec.Sub(good, l), with(vec.Sub(good, good), i, bad))
				like(t, "Scale", vec.Scale(l, good[0]), with(vec.Scale(good, good[0]), i, bad))
				like(t, "Scale", vec.Scale(good, wrong), slices.Repeat([]T{bad}, n))
				// Behind the shorter row's end nothing is looked at.
				if got := vec.Dot(l, good[:i]); got != vec.Dot(good, good[:i]) {
					t.Error("Dot is", got)
				}
				like(t, "Add", vec.Add(l, good[:i]), vec.Add(good, good[:i]))
				like(t, "Sub", vec.Sub(good[:i], l), vec.Sub(good[:i], good))
			}
		}
	}
}

// P5.1, P5.2: rows in which one number is Bad, or may not be.
func TestWrong(t *testing.T) {
	rowsOfWrong(t, fractions(1, 2, 0, 1, -3, 1, 2, 7), badFraction, []fraction{badFraction, {N: 1, D: 2, Bad: true}, {}, {N: 2, D: 4}, {N: 1, D: -2}, {N: top + 1, D: 1}, {N: math.MinInt, D: math.MinInt}})
	rowsOfWrong(t, points(one, 0, -3*one, 5), badNum, []num{badNum, {V: one, Low: one, High: one, Bad: true}, {V: one, Low: 2 * one, High: one}, {V: 3, Low: 1, High: 2}, {V: api.Max + 1, Low: api.Max + 1, High: api.Max + 1}, {V: 0, Low: math.MinInt, High: math.MaxInt}})
}

// P5.1, P5.2: what is handed in does not change, the room behind its end included, and no answer shares memory with
// it, or with another answer.
func TestMemory(t *testing.T) {
	whole, a, b := []int{1, 2, 3, 4}, fractions(1, 2, 2, 3, 3, 4, 9, 1), fractions(4, 1, 5, 1, 6, 1, 8, 1)
	wholeWas, aWas, bWas := slices.Clone(whole), slices.Clone(a), slices.Clone(b)
	by := frac.New(1, 1)
	calls := []func() []fraction{
		func() []fraction { return vec.Whole[fraction](whole[:2]) },
		func() []fraction { return vec.Add(a[:2], b[:3]) },
		func() []fraction { return vec.Add(a[:3], b[:2]) },
		func() []fraction { return vec.Sub(a[:2], b[:3]) },
		func() []fraction { return vec.Sub(a[:3], b[:2]) },
		func() []fraction { return vec.Scale(a[:2], by) },
	}
	var was, again [][]fraction
	for _, call := range calls {
		first, second := call(), call()
		was = append(was, slices.Clone(first))
		again = append(again, second)
		spoil(first)
	}
	vec.Sum(a[:2])
	vec.Dot(a[:2], b[:3])
	gone(vec.Pairs(a[:2], b[:3]), 9)
	for i, l := range again {
		like(t, "an answer beside another one that has changed", l, was[i])
	}
	like(t, "what was handed in", whole, wholeWas)
	like(t, "what was handed in", a, aWas)
	like(t, "what was handed in", b, bWas)
}

// spoil writes over a row, and over the room behind its end.
func spoil(l []fraction) {
	l = l[:cap(l)]
	for i := range l {
		l[i] = fraction{N: 77, D: 1}
	}
}
