package joseph_test

import (
	"math"
	"math/big"
	"slices"
	"strconv"
	"testing"

	"couplet/api"
	"couplet/env"
	"couplet/frac"
	"couplet/joseph"
	"couplet/mat"
	"couplet/vec"
)

const (
	one = api.Unit
	top = api.MaxFrac
)

type (
	fraction = frac.Frac
	num      = env.Num
)

var (
	badFraction = fraction{Bad: true}
	badNum      = num{Bad: true}
)

// number is a kind of numbers that can be held against each other.
type number[T any] interface {
	comparable
	vec.Field[T]
}

// step is a kind of numbers that says what was done, of what, and in which order.
type step string

// done are all steps but whole numbers, in the order in which they were asked for.
var done []step

func (a step) Add(b step) step { return reckon("(" + a + "+" + b + ")") }
func (a step) Sub(b step) step { return reckon("(" + a + "-" + b + ")") }
func (a step) Mul(b step) step { return reckon("(" + a + "*" + b + ")") }
func (a step) Div(b step) step { return reckon("(" + a + "/" + b + ")") }
func (a step) Root() step      { return reckon("root" + a) }
func (a step) Neg() step       { return reckon("neg" + a) }
func (a step) Of(n int) step   { return step(strconv.Itoa(n)) }
func (a step) Sign() int       { return 1 }

func reckon(a step) step {
	done = append(done, a)
	return a
}

// named is a row of so many steps, each of which has a name of its own.
func named(name step, count int) []step {
	var l []step
	for i := range count {
		l = append(l, name+step(strconv.Itoa(i)))
	}
	return l
}

// fractions are n by d of each two numbers.
func fractions(parts ...int) []fraction {
	var l []fraction
	for p := range slices.Chunk(parts, 2) {
		l = append(l, frac.New(p[0], p[1]))
	}
	return l
}

// mixed are whole numbers of at most so much either way, always the same ones.
func mixed(seed, count, most int) []int {
	x := uint64(seed)*2 + 0x9e3779b97f4a7c15
	var l []int
	for range count {
		x ^= x << 13
		x ^= x >> 7
		x ^= x << 17
		l = append(l, int(x>>16)%(2*most+1)-most)
	}
	return l
}

// counted are the whole numbers from 1 on.
func counted(count int) []int {
	var l []int
	for i := range count {
		l = append(l, i+1)
	}
	return l
}

// of is a matrix of so many rows.
func of[T vec.Field[T]](rows int, l ...T) mat.Mat[T] {
	return mat.Mat[T]{Rows: rows, Cols: len(l) / rows, L: l}
}

func wholes[T vec.Field[T]](rows int, l ...int) mat.Mat[T] {
	return of(rows, vec.Whole[T](l)...)
}

func unit[T vec.Field[T]](n int) mat.Mat[T] {
	m, _ := mat.Unit[T](n)
	return m
}

func noughts[T vec.Field[T]](n int) mat.Mat[T] {
	return wholes[T](n, make([]int, n*n)...)
}

// state is one of these numbers, and then those of P, row by row.
func state[T vec.Field[T]](n int, l ...T) joseph.State[T] {
	return joseph.State[T]{X: l[:n], P: of(n, l[n:]...)}
}

// numbers are all numbers of a state: those of X, then those of P.
func numbers[T vec.Field[T]](s joseph.State[T]) []T {
	return slices.Concat(s.X, s.P.L)
}

// with is a row, but for one number of it.
func with[T any](l []T, i int, x T) []T {
	l = slices.Clone(l)
	l[i] = x
	return l
}

// like holds a row against what it should be; none is as good as an empty one.
func like[T comparable](t *testing.T, name string, got, want []T) {
	t.Helper()
	if !slices.Equal(got, want) {
		t.Error(name, "is", got, "not", want)
	}
}

// told holds a state that there must be against what it should be.
func told[T number[T]](t *testing.T, name string, want joseph.State[T]) func(joseph.State[T], bool) {
	return func(got joseph.State[T], is bool) {
		t.Helper()
		if !is || !got.Right() || len(got.X) != len(want.X) || !slices.Equal(numbers(got), numbers(want)) {
			t.Error(name, "is", got, is, "not", want)
		}
	}
}

// updated holds a state and the news that there must be against what they should be.
func updated[T number[T]](t *testing.T, name string, want joseph.State[T], surprise, spread T) func(joseph.State[T], joseph.News[T], bool) {
	return func(got joseph.State[T], news joseph.News[T], is bool) {
		t.Helper()
		told(t, name, want)(got, is)
		if news.Surprise != surprise || news.Spread != spread {
			t.Error(name, "has the news", news, "not", surprise, spread)
		}
	}
}

// none asks for zero ones, and false.
func none[T number[T]](t *testing.T, name string) func(joseph.State[T], bool) {
	return func(got joseph.State[T], is bool) {
		t.Helper()
		if is || len(got.X) != 0 || got.P.Rows != 0 || got.P.Cols != 0 || len(got.P.L) != 0 {
			t.Error(name, "is", got, is)
		}
	}
}

// noneToo asks for no news, either.
func noneToo[T number[T]](t *testing.T, name string) func(joseph.State[T], joseph.News[T], bool) {
	return func(got joseph.State[T], news joseph.News[T], is bool) {
		t.Helper()
		none[T](t, name)(got, is)
		if news != (joseph.News[T]{}) {
			t.Error(name, "has the news", news)
		}
	}
}

// dot is what the products of both leave, reckoned one by one from 0 on.
func dot[T vec.Field[T]](a, b []T) T {
	sum := a[0].Of(0)
	for i := range a {
		sum = sum.Add(a[i].Mul(b[i]))
	}
	return sum
}

// rows are those of n by n numbers.
func rows[T any](n int, l []T) [][]T {
	return slices.Collect(slices.Chunk(l, n))
}

// turned has rows as columns.
func turned[T any](l [][]T) [][]T {
	var all [][]T
	for k := range l[0] {
		var row []T
		for i := range l {
			row = append(row, l[i][k])
		}
		all = append(all, row)
	}
	return all
}

// times is of each row and each column the dot.
func times[T vec.Field[T]](a, b [][]T) [][]T {
	var all [][]T
	for _, row := range a {
		var l []T
		for _, col := range turned(b) {
			l = append(l, dot(row, col))
		}
		all = append(all, l)
	}
	return all
}

// both is what is done of all numbers at the same places.
func both[T any](a, b [][]T, do func(x, y T) T) [][]T {
	var all [][]T
	for i := range a {
		var l []T
		for k := range a[i] {
			l = append(l, do(a[i][k], b[i][k]))
		}
		all = append(all, l)
	}
	return all
}

// mirror has above the diagonal what is below it.
func mirror[T any](l [][]T) [][]T {
	for i := range l {
		for k := range i {
			l[k][i] = l[i][k]
		}
	}
	return l
}

// square is n by n numbers times themselves, turned, mirrored.
func square[T vec.Field[T]](l [][]T) [][]T {
	return mirror(times(l, turned(l)))
}

func sum[T vec.Field[T]](x, y T) T  { return x.Add(y) }
func less[T vec.Field[T]](x, y T) T { return x.Sub(y) }

// begun is a state of a root, as the words say it.
func begun[T vec.Field[T]](x []T, root mat.Mat[T]) joseph.State[T] {
	n := len(x)
	return joseph.State[T]{X: x, P: of(n, slices.Concat(square(rows(n, root.L))...)...)}
}

// ticked is what it is to predict, as the words say it.
func ticked[T vec.Field[T]](s joseph.State[T], f, g mat.Mat[T]) joseph.State[T] {
	n := len(s.X)
	var x []T
	for _, row := range rows(n, f.L) {
		x = append(x, dot(row, s.X))
	}
	by := rows(n, f.L)
	p := times(times(by, rows(n, s.P.L)), turned(by))
	p = mirror(both(p, square(rows(n, g.L)), sum[T]))
	return joseph.State[T]{X: x, P: of(n, slices.Concat(p...)...)}
}

// parts are what it is to update, in the order in which it is reckoned; P is not mirrored yet.
type parts[T any] struct {
	u              []T
	a              T
	k              []T
	e              T
	x              []T
	m, mp, left, c [][]T
	right, p       [][]T
}

// measured is what it is to update, as the words say it.
func measured[T vec.Field[T]](s joseph.State[T], h []T, r, z T) parts[T] {
	n, was := len(s.X), rows(len(s.X), s.P.L)
	var o parts[T]
	for _, row := range was {
		o.u = append(o.u, dot(row, h))
	}
	o.a = dot(h, o.u).Add(r)
	for _, u := range o.u {
		o.k = append(o.k, u.Div(o.a))
	}
	o.e = z.Sub(dot(h, s.X))
	for i, x := range s.X {
		o.x = append(o.x, x.Add(o.k[i].Mul(o.e)))
	}
	o.m = both(rows(n, unit[T](n).L), times(turned([][]T{o.k}), [][]T{h}), less[T])
	o.mp = times(o.m, was)
	o.left = times(o.mp, turned(o.m))
	for _, k := range o.k {
		o.c = append(o.c, []T{k.Mul(r)})
	}
	o.right = times(o.c, [][]T{o.k})
	o.p = both(o.left, o.right, sum[T])
	return o
}

// after is the state behind it.
func (o parts[T]) after() []T {
	return flat([][]T{o.x}, mirror(o.p))
}

// flat are all numbers, row by row.
func flat[T any](l ...[][]T) []T {
	return slices.Concat(slices.Concat(l...)...)
}

// asPredicted holds Predict against the words.
func asPredicted[T number[T]](t *testing.T, s joseph.State[T], f, g mat.Mat[T]) {
	t.Helper()
	told(t, "Predict", ticked(s, f, g))(joseph.Predict(s, f, g))
}

// asMeasured holds Update against the words.
func asMeasured[T number[T]](t *testing.T, s joseph.State[T], h []T, r, z T) {
	t.Helper()
	o := measured(s, h, r, z)
	updated(t, "Update", state(len(h), o.after()...), o.e, o.a)(joseph.Update(s, h, r, z))
}

// byHand are small ones, whose numbers are exact of units, too.
func byHand[T number[T]](t *testing.T) {
	w := func(l ...int) []T { return vec.Whole[T](l) }
	n := func(x int) T { return w(x)[0] }
	half := func(x int) T { return n(x).Div(n(2)) }
	told(t, "New", state(1, w(7, 9)...))(joseph.New(w(7), wholes[T](1, -3)))
	told(t, "New", state(2, w(1, 2, 1, 1, 1, 2)...))(joseph.New(w(1, 2), wholes[T](2, 1, 0, 1, 1)))
	// What stands above the root's diagonal is squared with it.
	told(t, "New", state(2, w(1, 2, 5, 5, 5, 10)...))(joseph.New(w(1, 2), wholes[T](2, 1, 2, -1, 3)))

	told(t, "Predict", state(1, w(-10, 61)...))(joseph.Predict(state(1, w(5, 3)...), wholes[T](1, -2), wholes[T](1, 7)))
	two := state(2, w(1, 2, 1, 1, 1, 2)...)
	told(t, "Predict", state(2, w(3, 2, 6, 3, 3, 6)...))(joseph.Predict(two, wholes[T](2, 1, 1, 0, 1), wholes[T](2, 1, 0, 0, 2)))
	told(t, "Predict", state(2, w(-3, 5, 15, -13, -13, 22)...))(joseph.Predict(two, wholes[T](2, 1, -2, 3, 1), wholes[T](2, 1, 3, -1, -2)))

	updated(t, "Update", state(1, half(2), half(1)), n(2), n(2))(joseph.Update(state(1, w(0, 1)...), w(1), n(1), n(2)))
	updated(t, "Update", state(1, w(6, 0)...), n(1), n(3))(joseph.Update(state(1, w(5, 3)...), w(1), n(0), n(6)))
	updated(t, "Update", state(2, n(7), n(4), n(2), n(1), n(1), half(9)), n(8), n(8))(joseph.Update(state(2, w(3, 2, 4, 2, 2, 5)...), w(1, 0), n(4), n(11)))
	updated(t, "Update", state(2, n(5), n(0), half(7), half(5), half(5), half(7)), n(8), n(8))(joseph.Update(state(2, w(3, 2, 4, 2, 2, 4)...), w(1, -1), n(4), n(9)))
}

// P9.1: the example, and others by hand.
func TestByHand(t *testing.T) {
	byHand[fraction](t)
	byHand[num](t)
	s, _ := joseph.New(fractions(0, 1), of(1, frac.New(1, 2)))
	told(t, "New", state(1, fractions(0, 1, 1, 4)...))(s, true)
	s, _ = joseph.Predict(s, of(1, frac.New(3, 2)), of(1, frac.New(1, 3)))
	told(t, "Predict", state(1, fractions(0, 1, 97, 144)...))(s, true)
	// k is 97 by 144, by 97 by 36.
	updated(t, "Update", state(1, fractions(-3, 4, 97, 192)...), frac.New(-3, 1), frac.New(97, 36))(joseph.Update(s, fractions(1, 1), frac.New(291, 144), frac.New(-3, 1)))
}

// P9.1: a state of 0, a root of 1, a tick of 1 and 1, and then 3 is measured: 2, and the covariance 2 by 3.
func TestWhole(t *testing.T) {
	s, _ := joseph.New(fractions(0, 1), unit[fraction](1))
	s, _ = joseph.Predict(s, unit[fraction](1), unit[fraction](1))
	updated(t, "Update", state(1, fractions(2, 1, 2, 3)...), frac.New(3, 1), frac.New(3, 1))(joseph.Update(s, fractions(1, 1), frac.New(1, 1), frac.New(3, 1)))
	e, _ := joseph.New(wholes[num](1, 0).L, unit[num](1))
	e, _ = joseph.Predict(e, unit[num](1), unit[num](1))
	e, news, is := joseph.Update(e, unit[num](1).L, env.Point(one), env.Point(3*one))
	if !is || !env.Encloses(e.X[0], 2, 1) || !env.Encloses(e.P.L[0], 2, 3) || news.Spread != env.Point(3*one) || news.Surprise != env.Point(3*one) {
		t.Error("Update is", e, news, is)
	}
}

// P9.1: what is done, of what, and in which order, of one number, as texts.
func TestSteps(t *testing.T) {
	told(t, "New", state[step](1, "x", "(0+(s*s))"))(joseph.New([]step{"x"}, of[step](1, "s")))
	done = nil
	told(t, "Predict", state[step](1, "(0+(f*x))", "((0+((0+(f*p))*f))+(0+(g*g)))"))(joseph.Predict(state[step](1, "x", "p"), of[step](1, "f"), of[step](1, "g")))
	like(t, "the order of Predict", done, []step{"(f*x)", "(0+(f*x))", "(f*p)", "(0+(f*p))", "((0+(f*p))*f)", "(0+((0+(f*p))*f))", "(g*g)", "(0+(g*g))", "((0+((0+(f*p))*f))+(0+(g*g)))"})

	u := step("(0+(p*h))")
	a := "((0+(h*" + u + "))+r)"
	k := "(" + u + "/" + a + ")"
	e := step("(z-(0+(h*x)))")
	ke := "(" + k + "*" + e + ")"
	x := "(x+" + ke + ")"
	kh := "(" + k + "*h)"
	m := "(1-(0+" + kh + "))"
	mp := "(" + m + "*p)"
	mpm := "((0+" + mp + ")*" + m + ")"
	kr := "(" + k + "*r)"
	krk := "(" + kr + "*" + k + ")"
	p := "((0+" + mpm + ")+(0+" + krk + "))"
	done = nil
	updated(t, "Update", state(1, x, p), e, a)(joseph.Update(state[step](1, "x", "p"), []step{"h"}, "r", "z"))
	like(t, "the order of Update", done, []step{"(p*h)", u, "(h*" + u + ")", "(0+(h*" + u + "))", a, k, "(h*x)", "(0+(h*x))", e, ke, x, kh, "(0+" + kh + ")", m, mp, "(0+" + mp + ")", mpm, "(0+" + mpm + ")", kr, krk, "(0+" + krk + ")", p})
}

// found are those of the steps done that are among these, in the order in which they were done.
func found(among []step) []step {
	return slices.DeleteFunc(slices.Clone(done), func(s step) bool { return !slices.Contains(among, s) })
}

// P9.1: of more numbers the same, number by number.
func TestOrder(t *testing.T) {
	for n := 2; n <= api.MaxState; n++ {
		s := state(n, slices.Concat(named("x", n), named("p", n*n))...)
		f, g, h := of(n, named("f", n*n)...), of(n, named("g", n*n)...), named("h", n)

		left := times(times(rows(n, f.L), rows(n, s.P.L)), turned(rows(n, f.L)))
		noise := times(rows(n, g.L), turned(rows(n, g.L)))
		order := slices.Concat(ticked(s, f, g).X, flat(times(rows(n, f.L), rows(n, s.P.L)), left, noise, both(left, square(rows(n, g.L)), sum[step])))
		done = nil
		joseph.Predict(s, f, g)
		like(t, "the order of Predict", found(order), order)
		asPredicted(t, s, f, g)

		o := measured(s, h, "r", "z")
		order = slices.Concat(o.u, []step{o.a}, o.k, []step{o.e}, o.x, flat(o.m, o.mp, o.left, o.c, o.right, o.p))
		done = nil
		joseph.Update(s, h, "r", "z")
		like(t, "the order of Update", found(order), order)
		asMeasured(t, s, h, "r", "z")

		told(t, "New", begun(s.X, g))(joseph.New(s.X, g))
	}
}

// P9.1: whatever the numbers are, points and with bounds, and a P that is not its own mirror: what is told is what was
// reckoned.
func asReckoned[T number[T]](t *testing.T, n, seed int, change func(i int, x T) T) {
	all := func(part, count, most int) []T {
		l := vec.Whole[T](mixed(seed*100+n*10+part, count, most))
		for i, x := range l {
			l[i] = change(i, x)
		}
		return l
	}
	s := state(n, all(1, n+n*n, 9)...)
	f, g := of(n, all(2, n*n, 3)...), of(n, all(3, n*n, 3)...)
	told(t, "New", begun(s.X, g))(joseph.New(s.X, g))
	asPredicted(t, s, f, g)
	more := all(4, n+2, 7)
	asMeasured(t, s, more[:n], more[n], more[n+1])
}

func TestReckoned(t *testing.T) {
	for n := 1; n <= api.MaxState; n++ {
		for seed := range 30 {
			asReckoned(t, n, seed, func(_ int, x fraction) fraction { return x })
			asReckoned(t, n, seed, func(i int, x fraction) fraction { return x.Div(frac.New(i%3+1, 1)) })
			asReckoned(t, n, seed, func(_ int, x num) num { return x })
			asReckoned(t, n, seed, func(i int, x num) num { return x.Div(env.Point((i + 3) * one)) })
			asReckoned(t, n, seed, func(i int, x num) num { return num{V: x.V, Low: x.V - i*seed, High: x.V + i*300} })
		}
	}
}

// mirrored asks that P is its own mirror.
func mirrored[T number[T]](t *testing.T, s joseph.State[T]) {
	t.Helper()
	like(t, "P, turned", s.P.Turn().L, s.P.L)
}

// P9.2: behind each call P is its own mirror, whatever it was ahead of it.
func alwaysMirrored[T number[T]](t *testing.T, n, seed int, third T) {
	all := func(part, count int) []T {
		return vec.Scale(vec.Whole[T](mixed(seed*100+n*10+part, count, 5)), third)
	}
	s := state(n, all(1, n+n*n)...)
	f, g := of(n, all(2, n*n)...), of(n, all(3, n*n)...)
	begun, _ := joseph.New(s.X, g)
	mirrored(t, begun)
	for _, s := range []joseph.State[T]{s, begun} {
		p, _ := joseph.Predict(s, f, g)
		mirrored(t, p)
		p, _, _ = joseph.Update(s, all(4, n), third, third)
		mirrored(t, p)
	}
}

func TestMirrored(t *testing.T) {
	for n := 1; n <= api.MaxState; n++ {
		for seed := range 30 {
			alwaysMirrored(t, n, seed, frac.New(1, 3))
			alwaysMirrored(t, n, seed, env.Point(one).Div(env.Point(3*one)))
			alwaysMirrored(t, n, seed, num{V: one / 5, Low: one/5 - 300, High: one/5 + 40})
		}
	}
}

// P9.2: in fractions P behind an update is P less the column u times the row u, by a.
func TestLessColumnTimesRow(t *testing.T) {
	for n := 1; n <= api.MaxState; n++ {
		fine := 0
		for seed := range 200 {
			s, _ := joseph.New(vec.Whole[fraction](mixed(seed, n, 9)), wholes[fraction](n, mixed(seed+300, n*n, 2)...))
			h := vec.Whole[fraction](mixed(seed+600, n, 2))
			o := measured(s, h, frac.New(seed%7+1, 1), frac.New(seed, 2))
			got, news, is := joseph.Update(s, h, frac.New(seed%7+1, 1), frac.New(seed, 2))
			if !is || news.Spread != o.a || slices.Contains(got.P.L, badFraction) {
				continue
			}
			fine++
			for i, u := range o.u {
				for k, v := range o.u {
					want := s.P.At(i, k).Sub(u.Mul(v).Div(o.a))
					if got.P.At(i, k) != want || want.Bad {
						t.Error("Update of", s, "by", h, "is", got.P.At(i, k), "at", i, k, "not", want)
					}
				}
			}
		}
		if fine < 150 {
			t.Error("of", n, "numbers so few are fine:", fine)
		}
	}
}

// exact is a filter of exact numbers, of any size; it is not Joseph's form.
type exact struct {
	x []*big.Rat
	p [][]*big.Rat
}

func whole(n int) *big.Rat { return big.NewRat(int64(n), 1) }

// ratDot is what the products of whole numbers and of exact ones leave.
func ratDot(a []int, b []*big.Rat) *big.Rat {
	sum := new(big.Rat)
	for i, n := range a {
		sum.Add(sum, new(big.Rat).Mul(whole(n), b[i]))
	}
	return sum
}

// tick is one tick on: each number of the covariance is told by sums of products of two.
func (e exact) tick(f, g [][]int) exact {
	var to exact
	for i := range f {
		to.x = append(to.x, ratDot(f[i], e.x))
		var row []*big.Rat
		for k := range f {
			var by []*big.Rat
			for _, was := range e.p {
				by = append(by, ratDot(f[k], was))
			}
			sum := ratDot(f[i], by)
			for j := range g {
				sum.Add(sum, whole(g[i][j]*g[k][j]))
			}
			row = append(row, sum)
		}
		to.p = append(to.p, row)
	}
	return to
}

// take is a measurement; it tells the surprise and the spread, too.
func (e exact) take(h []int, r, z int) (to exact, surprise, spread *big.Rat) {
	var u []*big.Rat
	for _, row := range e.p {
		u = append(u, ratDot(h, row))
	}
	spread = new(big.Rat).Add(ratDot(h, u), whole(r))
	surprise = new(big.Rat).Sub(whole(z), ratDot(h, e.x))
	for i := range u {
		k := new(big.Rat).Quo(u[i], spread)
		to.x = append(to.x, new(big.Rat).Add(e.x[i], new(big.Rat).Mul(k, surprise)))
		var row []*big.Rat
		for j := range u {
			row = append(row, new(big.Rat).Sub(e.p[i][j], new(big.Rat).Mul(k, u[j])))
		}
		to.p = append(to.p, row)
	}
	return to, surprise, spread
}

// encloses asks that each number that is not Bad encloses the exact one.
func encloses(t *testing.T, name string, l []num, exact []*big.Rat) {
	t.Helper()
	if len(l) != len(exact) {
		t.Fatal(name, "has", len(l), "numbers, not", len(exact))
	}
	for i, x := range exact {
		units := new(big.Rat).Mul(x, whole(one))
		if !l[i].Bad && (units.Cmp(whole(l[i].Low)) < 0 || units.Cmp(whole(l[i].High)) > 0) {
			t.Error(name, "has", l[i], "and exactly, in units,", units.FloatString(3))
		}
	}
}

// enclosed asks that a state encloses the exact one, and tells how wide its widest number is; no state is as wide as one
// that is Bad.
func (e exact) enclosed(t *testing.T, name string, s joseph.State[num]) int {
	t.Helper()
	encloses(t, name+", X,", s.X, e.x)
	encloses(t, name+", P,", s.P.L, slices.Concat(e.p...))
	mirrored(t, s)
	wide := 0
	for _, x := range numbers(s) {
		wide = max(wide, x.High-x.Low)
		if x.Bad {
			wide = math.MaxInt
		}
	}
	return wide
}

// start is a state of whole numbers, and the exact one.
func start(x, root []int) (joseph.State[num], exact) {
	n := len(x)
	var e exact
	for i, row := range rows(n, root) {
		var p []*big.Rat
		for _, other := range rows(n, root) {
			sum := 0
			for j := range n {
				sum += row[j] * other[j]
			}
			p = append(p, whole(sum))
		}
		e.x, e.p = append(e.x, whole(x[i])), append(e.p, p)
	}
	s, _ := joseph.New(vec.Whole[num](x), wholes[num](n, root...))
	return s, e
}

// wholeSteps goes on of whole numbers, and asks behind each step that what is told encloses the exact one; it tells how
// wide that is behind each measurement.
func wholeSteps(t *testing.T, n, seed int) []int {
	s, e := start(mixed(seed+n*40, n, 9), mixed(seed+n*50, n*n, 3))
	if e.enclosed(t, "New", s) != 0 {
		t.Error("New of whole numbers is", s)
	}
	f := make([]int, n*n)
	for i := range n {
		f[i*n+i] = 1
		if i+1 < n {
			f[i*n+i+1] = 1 - 2*(seed%2)
		}
	}
	var wide []int
	for turn := range 6 {
		g, h := mixed(seed+turn*7, n*n, 1), mixed(seed+turn*9+n, n, 2)
		r, z := 1+(seed+turn)%5, seed-10+turn*3
		s, _ = joseph.Predict(s, wholes[num](n, f...), wholes[num](n, g...))
		e = e.tick(rows(n, f), rows(n, g))
		e.enclosed(t, "Predict", s)
		after, news, _ := joseph.Update(s, vec.Whole[num](h), env.Point(r*one), env.Point(z*one))
		to, surprise, spread := e.take(h, r, z)
		encloses(t, "the news", []num{news.Surprise, news.Spread}, []*big.Rat{surprise, spread})
		wide = append(wide, to.enclosed(t, "Update", after))
		s, e = after, to
	}
	return wide
}

// P9.1, P9.2: of whole numbers, step by step, what is told of enclosed ones encloses the exact filter's, and not too
// widely, as long as the steps are few.
func TestEnclosed(t *testing.T) {
	for n := 1; n <= api.MaxState; n++ {
		for seed := range 25 {
			wide := wholeSteps(t, n, seed)
			if wide[0] > 1<<10 || wide[1] > 1<<18 || n == 1 && wide[5] > 1<<12 {
				t.Error("of", n, "numbers states are so wide:", wide)
			}
		}
	}
}

// stays asks that a tick of the unit and of no noise, and a measurement of nothing, change nothing.
func stays[T number[T]](t *testing.T, third T) {
	for n := 1; n <= api.MaxState; n++ {
		x := vec.Scale(vec.Whole[T](mixed(n, n, 20)), third)
		root := of(n, vec.Scale(vec.Whole[T](mixed(n+9, n*n, 5)), third)...)
		s, _ := joseph.New(x, root)
		told(t, "Predict by the unit", s)(joseph.Predict(s, unit[T](n), noughts[T](n)))
		still := joseph.State[T]{X: x, P: noughts[T](n)}
		told(t, "New of noughts", still)(joseph.New(x, noughts[T](n)))
		told(t, "Predict by the unit", begun(x, root))(joseph.Predict(still, unit[T](n), root))
		told(t, "Predict by noughts", joseph.State[T]{X: noughts[T](n).Row(0), P: s.P})(joseph.Predict(s, noughts[T](n), root))
		updated(t, "Update of nothing", s, third, third)(joseph.Update(s, noughts[T](n).L[:n], third, third))
		// What is known for sure is not changed, whatever is measured.
		surprise := third.Sub(dot(x, x))
		updated(t, "Update of what is sure", still, surprise, third)(joseph.Update(still, x, third, third))
	}
}

// P9.1: a tick that changes nothing, and h of noughts.
func TestStays(t *testing.T) {
	stays(t, frac.New(1, 3))
	stays(t, env.Point(one/4))
}

// bads are a state all of whose numbers are Bad.
func bads[T vec.Field[T]](n int, bad T) joseph.State[T] {
	return state(n, slices.Repeat([]T{bad}, n+n*n)...)
}

// noSpread has a spread of 0: there is no gain, and so no number, but there is the news.
func noSpread[T number[T]](t *testing.T, bad T) {
	w := func(l ...int) []T { return vec.Whole[T](l) }
	o, two := bad.Of(0), bad.Of(2)
	for n := 1; n <= api.MaxState; n++ {
		s := joseph.State[T]{X: w(counted(n)...), P: noughts[T](n)}
		updated(t, "Update without a spread", bads(n, bad), two.Sub(bad.Of(n*(n+1)/2)), o)(joseph.Update(s, w(slices.Repeat([]int{1}, n)...), o, two))
		s.P = unit[T](n)
		updated(t, "Update of nothing, without noise", bads(n, bad), two, o)(joseph.Update(s, w(make([]int, n)...), o, two))
		h := w(with(make([]int, n), n-1, 2)...)
		updated(t, "Update by noise below 0", bads(n, bad), two.Sub(bad.Of(2*n)), o)(joseph.Update(s, h, bad.Of(-4), two))
	}
	// A spread below 0 is none that is 0.
	updated(t, "Update by noise below 0", state(1, w(-2, 2)...), two, bad.Of(-1))(joseph.Update(state(1, w(0, 1)...), w(1), bad.Of(-2), two))
}

// P9.1: a spread that is 0, that encloses 0, or that may not be.
func TestNoSpread(t *testing.T) {
	noSpread(t, badFraction)
	noSpread(t, badNum)
	s, h, two := state(1, env.Point(one), env.Point(one)), []num{env.Point(one)}, env.Point(2*one)
	about := num{V: one, Low: -one, High: one}
	updated(t, "Update by what encloses 0", bads(1, badNum), env.Point(one), num{V: 2 * one, Low: 0, High: 2 * one})(joseph.Update(s, h, about, two))
	updated(t, "Update by what is too great", bads(1, badNum), env.Point(one), badNum)(joseph.Update(s, h, env.Point(api.Max), two))
	s = state(1, env.Point(one), env.Point(api.Max))
	updated(t, "Update of what is too great", bads(1, badNum), env.Point(one), badNum)(joseph.Update(s, h, two, two))
	f := state(1, fractions(0, 1, top, 1)...)
	updated(t, "Update of what is too great", bads(1, badFraction), frac.New(2, 1), badFraction)(joseph.Update(f, fractions(1, 1), frac.New(1, 1), frac.New(2, 1)))
	// The greatest spread there is.
	updated(t, "Update of the greatest", state(1, frac.New(1, 2), frac.New(top/4, 1)), frac.New(1, 1), frac.New(top, 1))(joseph.Update(state(1, fractions(0, 1, top/2, 1)...), fractions(1, 1), frac.New(top/2, 1), frac.New(1, 1)))
	updated(t, "Update of the greatest", state(1, two, env.Point(api.Max/4)), two, env.Point(api.Max))(joseph.Update(state(1, env.Point(one), env.Point(api.Max/2)), h, env.Point(api.Max/2), env.Point(3*one)))
}

// P9.1: numbers that grow beyond what may be are Bad, and no others.
func TestTooGreat(t *testing.T) {
	o, great, w := frac.New(0, 1), frac.New(top, 1), vec.Whole[fraction]
	told(t, "Predict", state(2, badFraction, o, badFraction, o, o, frac.New(1, 1)))(joseph.Predict(state(2, great, o, great, o, o, o), wholes[fraction](2, 2, 0, 0, 1), wholes[fraction](2, 0, 0, 0, 1)))
	told(t, "New", state(1, great, badFraction))(joseph.New([]fraction{great}, of(1, great)))
	updated(t, "Update", state(1, badFraction, frac.New(1, 2)), badFraction, frac.New(2, 1))(joseph.Update(state(1, great, frac.New(1, 1)), w([]int{1}), frac.New(1, 1), frac.New(-top, 1)))
	most := env.Point(api.Max)
	told(t, "New", state(1, most, badNum))(joseph.New([]num{most}, of(1, most)))
	told(t, "Predict", state(1, badNum, badNum))(joseph.Predict(state(1, most, most), wholes[num](1, 2), wholes[num](1, 0)))
	told(t, "Predict", state(1, env.Point(-api.Max), most))(joseph.Predict(state(1, most, most), wholes[num](1, -1), wholes[num](1, 0)))
}

// sizes asks of all sides whether there may be a state, and what goes together with one.
func sizes[T number[T]](t *testing.T) {
	const most = 6
	square := func(n int) mat.Mat[T] { return wholes[T](max(n, 1), counted(max(n, 1)*max(n, 1))...) }
	for n := range most {
		x := vec.Whole[T](counted(n))
		for rows := 1; rows < most; rows++ {
			for cols := 1; cols < most; cols++ {
				m := wholes[T](rows, counted(rows*cols)...)
				fits := 1 <= n && n <= 4 && rows == n && cols == n
				if s := (joseph.State[T]{X: x, P: m}); s.Right() != fits {
					t.Error("of", n, "numbers and", rows, "by", cols, "Right is", s.Right())
				}
				if _, is := joseph.New(x, m); is != fits {
					t.Error("of", n, "numbers and", rows, "by", cols, "New is", is)
				}
				doNotFit(t, joseph.State[T]{X: x, P: square(n)}, m, fits)
				if !fits {
					none[T](t, "New")(joseph.New(x, m))
					unfit(t, joseph.State[T]{X: x, P: m})
				}
			}
		}
	}
}

// doNotFit asks that a matrix of other sides is no tick of a state, nor a row of another length a measurement.
func doNotFit[T number[T]](t *testing.T, s joseph.State[T], m mat.Mat[T], fits bool) {
	t.Helper()
	n := max(len(s.X), 1)
	x := unit[T](1).L[0]
	_, isF := joseph.Predict(s, m, unit[T](n))
	_, isG := joseph.Predict(s, unit[T](n), m)
	_, isBoth := joseph.Predict(s, m, m)
	_, _, isH := joseph.Update(s, m.L, x, x)
	if isF != fits || isG != fits || isBoth != fits || isH != (s.Right() && len(m.L) == n) {
		t.Error("of", s, "and", m, "these are", isF, isG, isBoth, isH)
	}
	if !fits {
		none[T](t, "Predict")(joseph.Predict(s, m, unit[T](n)))
		none[T](t, "Predict")(joseph.Predict(s, unit[T](n), m))
	}
	if !isH {
		noneToo[T](t, "Update")(joseph.Update(s, m.L, x, x))
	}
}

// unfit asks that nothing is told of a state that may not be, whatever goes with it.
func unfit[T number[T]](t *testing.T, s joseph.State[T]) {
	t.Helper()
	if s.Right() {
		t.Error("Right is true of", s)
	}
	for n := 1; n <= 5; n++ {
		none[T](t, "Predict")(joseph.Predict(s, unit[T](n), unit[T](n)))
		h := unit[T](n).L[:n]
		noneToo[T](t, "Update")(joseph.Update(s, h, h[0], h[0]))
	}
	none[T](t, "Predict")(joseph.Predict(s, s.P, s.P))
	noneToo[T](t, "Update")(joseph.Update(s, s.X, unit[T](1).L[0], unit[T](1).L[0]))
	none[T](t, "Predict")(joseph.Predict(s, mat.Mat[T]{}, mat.Mat[T]{}))
	noneToo[T](t, "Update")(joseph.Update(s, nil, unit[T](1).L[0], unit[T](1).L[0]))
}

// P9.1: states of 1 to 4 numbers, none and 5; and what does not go together.
func TestSizes(t *testing.T) {
	sizes[fraction](t)
	sizes[num](t)
}

// allThatMayNotBe goes through what has Rows, Cols and L that do not go together, and nothing at all.
func allThatMayNotBe[T number[T]](t *testing.T) {
	unfit(t, joseph.State[T]{})
	unfit(t, joseph.State[T]{X: []T{}, P: mat.Mat[T]{L: []T{}}})
	x := vec.Whole[T](counted(5))
	none[T](t, "New")(joseph.New(nil, mat.Mat[T]{}))
	none[T](t, "New")(joseph.New([]T{}, unit[T](1)))
	for _, m := range [][4]int{{1, 1, 0, 1}, {1, 1, 2, 1}, {2, 2, 3, 2}, {2, 2, 5, 2}, {2, 2, 0, 2}, {0, 0, 0, 1}, {0, 0, 1, 1}, {1, 0, 0, 1}, {0, 1, 0, 1}, {-1, -1, 1, 1}, {-2, -2, 4, 2}, {1, 4, 4, 2}, {4, 1, 4, 2}, {2, 3, 4, 2}, {4, 4, 15, 4}, {4, 4, 17, 4}, {5, 5, 25, 5}, {5, 5, 25, 4}, {16, 16, 256, 5}, {17, 17, 289, 5}, {math.MaxInt, math.MaxInt, 1, 1}, {math.MinInt, math.MinInt, 0, 1}, {1<<62 + 1, 1<<62 + 1, 1, 1}, {1 << 32, 1 << 32, 0, 1}, {1, math.MaxInt, 1, 1}} {
		// As many numbers as there should be, if the room behind the end were counted.
		l := vec.Whole[T](counted(400))
		for _, l := range [][]T{l[:m[2]], slices.Clip(l[:m[2]]), nil} {
			wrong := mat.Mat[T]{Rows: m[0], Cols: m[1], L: l}
			unfit(t, joseph.State[T]{X: x[:m[3]], P: wrong})
			none[T](t, "New")(joseph.New(x[:m[3]], wrong))
			for n := 1; n <= 4; n++ {
				doNotFit(t, joseph.State[T]{X: x[:n], P: unit[T](n)}, wrong, m[0] == n && m[1] == n && len(l) == n*n)
			}
		}
	}
	for n := 1; n <= 4; n++ {
		s := joseph.State[T]{X: x[:n], P: unit[T](n)}
		none[T](t, "Predict")(joseph.Predict(s, mat.Mat[T]{}, unit[T](n)))
		none[T](t, "Predict")(joseph.Predict(s, unit[T](n), mat.Mat[T]{}))
		noneToo[T](t, "Update")(joseph.Update(s, nil, x[0], x[0]))
		noneToo[T](t, "Update")(joseph.Update(s, []T{}, x[0], x[0]))
		noneToo[T](t, "Update")(joseph.Update(s, x[:n+1], x[0], x[0]))
		noneToo[T](t, "Update")(joseph.Update(s, x[:n-1], x[0], x[0]))
		unfit(t, joseph.State[T]{P: unit[T](n)})
		unfit(t, joseph.State[T]{X: x[:n]})
	}
}

func TestMayNotBe(t *testing.T) {
	allThatMayNotBe[fraction](t)
	allThatMayNotBe[num](t)
}

// wrongTick puts what is wrong at each place of a state, f and g, and tells which numbers are Bad, then.
func wrongTick[T number[T]](t *testing.T, n int, bad, wrong T) {
	all := vec.Whole[T](mixed(n, n+3*n*n, 4))
	for place := range all {
		l := with(all, place, wrong)
		s, f, g := state(n, l[:n+n*n]...), of(n, l[n+n*n:n+2*n*n]...), of(n, l[n+2*n*n:]...)
		got, _ := joseph.Predict(s, f, g)
		asPredicted(t, s, f, g)
		line := place - n
		inX, inP, inF := line < 0, 0 <= line && line < n*n, n*n <= line && line < 2*n*n
		row := max(line, 0) % (n * n) / n
		for i := range n {
			if (got.X[i] == bad) != (inX || inF && i == row) {
				t.Error("Predict, wrong at", place, "has the X", got.X)
			}
			for k := range n {
				if (got.P.At(i, k) == bad) != (inP || line >= n*n && (i == row || k == row)) {
					t.Error("Predict, wrong at", place, "has the P", got.P)
				}
			}
		}
	}
}

// wrongMeasure puts what is wrong at each place of a state, h, r and z, and tells which numbers are Bad, then.
func wrongMeasure[T number[T]](t *testing.T, n int, bad, wrong T) {
	s, _ := joseph.New(vec.Whole[T](counted(n)), wholes[T](n, counted(n*n)...))
	all := slices.Concat(numbers(s), vec.Whole[T](slices.Repeat([]int{1}, n+2)))
	for place := range all {
		l := with(all, place, wrong)
		s, h, r, z := state(n, l[:n+n*n]...), l[n+n*n:len(l)-2], l[len(l)-2], l[len(l)-1]
		got, news, _ := joseph.Update(s, h, r, z)
		asMeasured(t, s, h, r, z)
		inX, inH, inR, inZ := place < n, n+n*n <= place && place < len(l)-2, place == len(l)-2, place == len(l)-1
		like(t, "what is Bad of X", whichBad(got.X, bad), slices.Repeat([]bool{true}, n))
		like(t, "what is Bad of P", whichBad(got.P.L, bad), slices.Repeat([]bool{!inX && !inZ}, n*n))
		if (news.Surprise == bad) != (inX || inH || inZ) || (news.Spread == bad) == (inX || inZ) || inR && news.Surprise == bad {
			t.Error("Update, wrong at", place, "has the news", news)
		}
	}
}

// whichBad tells of each number whether it is Bad.
func whichBad[T comparable](l []T, bad T) []bool {
	var all []bool
	for _, x := range l {
		all = append(all, x == bad)
	}
	return all
}

// wrongs goes through all states with one number that is wrong; New takes over what it is handed.
func wrongs[T number[T]](t *testing.T, bad T, wrongs ...T) {
	for n := 1; n <= api.MaxState; n++ {
		for _, wrong := range append(wrongs, bad) {
			wrongTick(t, n, bad, wrong)
			wrongMeasure(t, n, bad, wrong)
			x, root := vec.Whole[T](counted(n)), wholes[T](n, counted(n*n)...)
			for place := range n {
				told(t, "New", joseph.State[T]{X: with(x, place, wrong), P: begun(x, root).P})(joseph.New(with(x, place, wrong), root))
			}
			for place := range n * n {
				p := begun(x, root).P
				for i := range n {
					p.L[place/n*n+i], p.L[i*n+place/n] = bad, bad
				}
				told(t, "New", joseph.State[T]{X: x, P: p})(joseph.New(x, of(n, with(root.L, place, wrong)...)))
			}
		}
	}
}

// P9.1: numbers that are Bad, or may not be, in a state, a tick and a measurement: true is told, and what comes of them is
// Bad.
func TestWrong(t *testing.T) {
	wrongs(t, badFraction, fraction{N: 1, D: 2, Bad: true}, fraction{}, fraction{N: 2, D: 4}, fraction{N: 1, D: -2}, fraction{N: top + 1, D: 1}, fraction{N: math.MinInt, D: math.MinInt})
	wrongs(t, badNum, num{V: one, Low: one, High: one, Bad: true}, num{V: one, Low: 2 * one, High: one}, num{V: 3, Low: 1, High: 2}, num{V: api.Max + 1, Low: api.Max + 1, High: api.Max + 1}, num{V: math.MinInt, Low: math.MinInt, High: math.MaxInt})
}

// P9.1: what is handed in does not change, the room behind its end included; no list of an answer shares memory with it, or
// with another list.
func TestMemory(t *testing.T) {
	for n := 1; n <= api.MaxState; n++ {
		in := vec.Whole[fraction](mixed(n, 200, 3))
		was := slices.Clone(in)
		x, h, r, z := in[:n], in[20:20+n], frac.New(1, 1), frac.New(2, 1)
		m := func(from int) mat.Mat[fraction] { return mat.Mat[fraction]{Rows: n, Cols: n, L: in[from : from+n*n]} }
		s := joseph.State[fraction]{X: x, P: m(40)}
		calls := []func() (joseph.State[fraction], bool){
			func() (joseph.State[fraction], bool) { return joseph.New(x, m(40)) },
			func() (joseph.State[fraction], bool) { return joseph.Predict(s, m(60), m(80)) },
			func() (joseph.State[fraction], bool) { return joseph.Predict(s, m(40), m(40)) },
			func() (joseph.State[fraction], bool) {
				return joseph.Predict(s, unit[fraction](n), noughts[fraction](n))
			},
			func() (joseph.State[fraction], bool) {
				s, _, is := joseph.Update(s, h, r, z)
				return s, is
			},
			func() (joseph.State[fraction], bool) {
				s, _, is := joseph.Update(s, x, r, z)
				return s, is
			},
			func() (joseph.State[fraction], bool) {
				s, _, is := joseph.Update(s, noughts[fraction](n).L[:n], r, z)
				return s, is
			},
		}
		for i, call := range calls {
			first, is := call()
			second, isToo := call()
			if !is || !isToo || !second.Right() {
				t.Error("no answer of call", i)
			}
			all, p := numbers(first), slices.Clone(first.P.L)
			spoil(first.X)
			like(t, "P beside an X that has changed", first.P.L, p)
			spoil(first.P.L)
			like(t, "an answer beside another one that has changed", numbers(second), all)
			like(t, "what was handed in", in, was)
			third, _ := call()
			like(t, "a later answer", numbers(third), all)
		}
	}
}

// spoil writes over a row, and over the room behind its end.
func spoil(l []fraction) {
	l = l[:cap(l)]
	for i := range l {
		l[i] = fraction{N: 77, D: 1}
	}
}
