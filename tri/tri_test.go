package tri_test

import (
	"math"
	"math/big"
	"slices"
	"strconv"
	"testing"

	"couplet/api"
	"couplet/env"
	"couplet/frac"
	"couplet/mat"
	"couplet/tri"
	"couplet/vec"
)

const (
	one = api.Unit
	top = api.MaxFrac
)

type (
	fraction = frac.Frac
	num      = env.Num
)

var (
	badFraction = fraction{Bad: true}
	badNum      = num{Bad: true}
)

// number is a kind of numbers that can be held against each other.
type number[T any] interface {
	comparable
	vec.Field[T]
}

// step is a kind of numbers that says what was done, of what, and in which order.
type step string

// done are the roots and quotients of steps, in the order in which they were asked for: these end the numbers of Root and
// Solve.
var done []step

func (a step) Add(b step) step { return "(" + a + "+" + b + ")" }
func (a step) Sub(b step) step { return "(" + a + "-" + b + ")" }
func (a step) Mul(b step) step { return "(" + a + "*" + b + ")" }
func (a step) Div(b step) step { return end("(" + a + "/" + b + ")") }
func (a step) Root() step      { return end("root" + a) }
func (a step) Neg() step       { return "neg" + a }
func (a step) Sign() int       { return 0 }
func (a step) Of(n int) step   { return step(strconv.Itoa(n)) }

func end(a step) step {
	done = append(done, a)
	return a
}

// fractions are n by d of each two numbers.
func fractions(parts ...int) []fraction {
	var l []fraction
	for p := range slices.Chunk(parts, 2) {
		l = append(l, frac.New(p[0], p[1]))
	}
	return l
}

// mixed are whole numbers of at most so much either way, always the same ones.
func mixed(seed uint64, count, most int) []int {
	x := seed*2 + 0x9e3779b97f4a7c15
	var l []int
	for range count {
		x ^= x << 13
		x ^= x >> 7
		x ^= x << 17
		l = append(l, int(x>>16)%(2*most+1)-most)
	}
	return l
}

// counted are the whole numbers from 1 on.
func counted(count int) []int {
	var l []int
	for i := range count {
		l = append(l, i+1)
	}
	return l
}

// of is an n by n matrix.
func of[T vec.Field[T]](n int, l ...T) mat.Mat[T] {
	return mat.Mat[T]{Rows: n, Cols: n, L: l}
}

func wholes[T vec.Field[T]](n int, l ...int) mat.Mat[T] {
	return of(n, vec.Whole[T](l)...)
}

// lower are whole numbers of a triangle: 0 above the diagonal, and on it numbers above 0.
func lower(seed uint64, n, most int) []int {
	l := mixed(seed, n*n, most)
	for i := range n {
		l[i*n+i] = max(l[i*n+i], -l[i*n+i]) + 1
		clear(l[i*n+i+1 : (i+1)*n])
	}
	return l
}

// over is a row of n by n numbers, with others above the diagonal.
func over[T any](n int, l []T, above func(i, k int) T) []T {
	l = slices.Clone(l)
	for i := range n {
		for k := i + 1; k < n; k++ {
			l[i*n+k] = above(i, k)
		}
	}
	return l
}

// with is a row, but for one number of it.
func with[T any](l []T, i int, x T) []T {
	l = slices.Clone(l)
	l[i] = x
	return l
}

// like holds a row against what it should be; none is as good as an empty one.
func like[T comparable](t *testing.T, name string, got, want []T) {
	t.Helper()
	if !slices.Equal(got, want) {
		t.Error(name, "is", got, "not", want)
	}
}

// told holds a matrix that there must be against what it should be.
func told[T number[T]](t *testing.T, name string, want mat.Mat[T]) func(mat.Mat[T], bool) {
	return func(got mat.Mat[T], is bool) {
		t.Helper()
		if !is || got.Rows != want.Rows || got.Cols != want.Cols || !slices.Equal(got.L, want.L) {
			t.Error(name, "is", got, is, "not", want)
		}
	}
}

// none asks for the zero matrix, and false.
func none[T number[T]](t *testing.T, name string) func(mat.Mat[T], bool) {
	return func(got mat.Mat[T], is bool) {
		t.Helper()
		if is || got.Rows != 0 || got.Cols != 0 || len(got.L) != 0 {
			t.Error(name, "is", got, is)
		}
	}
}

// solved holds a row that there must be against what it should be.
func solved[T number[T]](t *testing.T, name string, want ...T) func([]T, bool) {
	return func(got []T, is bool) {
		t.Helper()
		if !is || !slices.Equal(got, want) {
			t.Error(name, "is", got, is, "not", want)
		}
	}
}

// unsolved asks for nothing, and false.
func unsolved[T number[T]](t *testing.T, name string) func([]T, bool) {
	return func(got []T, is bool) {
		t.Helper()
		if is || len(got) != 0 {
			t.Error(name, "is", got, is)
		}
	}
}

// nought tells of fractions and of enclosed numbers what the zero of Is may tell.
func nought[T number[T]](x T) bool { return x.Sign() == 0 && x == x.Of(0) }

// P7.1: zero is asked of all numbers above the diagonal, and of no other one, as long as it tells true.
func asksAbove[T number[T]](t *testing.T, n int) {
	m := wholes[T](n, counted(n*n)...)
	var above []T
	for p, x := range m.L {
		if p%n > p/n {
			above = append(above, x)
		}
	}
	var asked []T
	if !tri.Is(m, func(x T) bool { asked = append(asked, x); return true }) {
		t.Error("Is of", n, "where zero tells true is false")
	}
	like(t, "what zero is asked of", asked, above)
	for _, other := range above {
		if tri.Is(m, func(x T) bool { return x != other }) {
			t.Error("Is of", n, "where zero tells false of", other)
		}
	}
	if is := tri.Is(m, func(x T) bool { return false }); is != (n == 1) {
		t.Error("Is of", n, "where zero tells false is", is)
	}
}

// P7.1: one number above the diagonal that is not 0, at each place from the first to the last; those on the diagonal, and
// below it, do not matter.
func oneAbove[T number[T]](t *testing.T, n int) {
	s := wholes[T](n, lower(uint64(n), n, 9)...)
	if !tri.Is(s, nought[T]) || !tri.Is(wholes[T](n, make([]int, n*n)...), nought[T]) {
		t.Error("Is of a triangle of", n)
	}
	for p := range n * n {
		is := tri.Is(of(n, with(s.L, p, s.L[0].Of(7))...), nought[T])
		if is != (p%n <= p/n) {
			t.Error("Is of", n, "with a 7 at", p, "is", is)
		}
	}
}

func TestIs(t *testing.T) {
	for n := 1; n <= 16; n++ {
		asksAbove[fraction](t, n)
		asksAbove[num](t, n)
		oneAbove[fraction](t, n)
		oneAbove[num](t, n)
	}
}

// P7.1: what zero tells is told, whatever the numbers are: a number about 0, one of 0 units with bounds, a Bad one.
func TestIsAsZeroTells(t *testing.T) {
	wide := num{V: 0, Low: -3, High: 3}
	for _, above := range []num{wide, badNum, env.Point(0), env.Point(1)} {
		m := of(2, env.Point(one), above, env.Point(5), env.Point(one))
		for _, zero := range []func(x num) bool{nought[num], num.Fine, func(x num) bool { return x.Sign() == 0 }, func(x num) bool { return env.Encloses(x, 0, 1) }} {
			if is := tri.Is(m, zero); is != zero(above) {
				t.Error("Is with", above, "above is", is)
			}
		}
	}
	if tri.Is(of(2, fractions(1, 1, 0, 1, 0, 1, 1, 1)...), func(x fraction) bool { return x.N != 0 }) {
		t.Error("Is of a triangle, where zero tells false of 0")
	}
}

// P7.1: a zero that is nil tells true of nothing; of 1 by 1 there is nothing to tell.
func TestIsOfNobody(t *testing.T) {
	if tri.Is(wholes[fraction](2, 1, 0, 0, 1), nil) || tri.Is(wholes[num](16, make([]int, 256)...), nil) || tri.Is(mat.Mat[num]{}, nil) || tri.Is(mat.Mat[num]{Rows: 1, Cols: 2, L: []num{{}, {}}}, nil) {
		t.Error("Is where zero is nil")
	}
	if !tri.Is(wholes[fraction](1, 5), nil) || !tri.Is(of(1, badNum), nil) {
		t.Error("Is of one number, where zero is nil")
	}
}

// asWhole holds Clear, Square and Diagonal of whole numbers, above the diagonal too, against what whole numbers tell.
func asWhole[T number[T]](t *testing.T, n int) {
	l := mixed(uint64(n)+300, n*n, 90)
	cleared := over(n, l, func(i, k int) int { return 0 })
	s := wholes[T](n, l...)
	var diagonal, squared []int
	for i := range n {
		diagonal = append(diagonal, l[i*n+i])
		for k := range n {
			sum := 0
			for j := range n {
				sum += l[i*n+j] * l[k*n+j]
			}
			squared = append(squared, sum)
		}
	}
	told(t, "Clear", wholes[T](n, cleared...))(tri.Clear(s))
	told(t, "Clear, cleared", wholes[T](n, cleared...))(tri.Clear(wholes[T](n, cleared...)))
	told(t, "Square", wholes[T](n, squared...))(tri.Square(s))
	like(t, "Diagonal", tri.Diagonal(s), vec.Whole[T](diagonal))
	if is, m := tri.Is(s, nought[T]), wholes[T](n, cleared...); is != (n == 1) || !tri.Is(m, nought[T]) {
		t.Error("Is of", n, "is", is)
	}
}

func TestWholeNumbers(t *testing.T) {
	for n := 1; n <= 16; n++ {
		asWhole[fraction](t, n)
		asWhole[num](t, n)
	}
}

// P7.1: by hand, in fractions, and of enclosed numbers with bounds.
func TestByHand(t *testing.T) {
	s := of(2, fractions(1, 2, -2, 3, 3, 4, 5, 1)...)
	told(t, "Clear", of(2, fractions(1, 2, 0, 1, 3, 4, 5, 1)...))(tri.Clear(s))
	told(t, "Square", of(2, fractions(25, 36, -71, 24, -71, 24, 409, 16)...))(tri.Square(s))
	like(t, "Diagonal", tri.Diagonal(s), fractions(1, 2, 5, 1))
	a, b, c := num{V: 4, Low: 2, High: 5}, num{V: -one, Low: -2 * one, High: one}, num{V: 7 * one, Low: 7*one - 1, High: 7 * one}
	told(t, "Clear", of(2, a, env.Point(0), b, c))(tri.Clear(of(2, a, c, b, c)))
	like(t, "Diagonal", tri.Diagonal(of(2, a, c, b, c)), []num{a, c})
	told(t, "Square of one", of(1, num{V: one, Low: -2 * one, High: 4 * one}))(tri.Square(of(1, b)))
	told(t, "Clear of one", of(1, b))(tri.Clear(of(1, b)))
}

// P7.1, P7.2: what is done, of what, and in which order: the square's numbers come of the lower rows' ones first; a
// triangle's Dots are of the first 0, 1 and 2 numbers; it is made column by column, what is solved from the first one on.
func TestSteps(t *testing.T) {
	told(t, "Clear", of[step](2, "a", "0", "c", "d"))(tri.Clear(of[step](2, "a", "b", "c", "d")))
	told(t, "Square", of[step](2, "((0+(a*a))+(b*b))", "((0+(c*a))+(d*b))", "((0+(c*a))+(d*b))", "((0+(c*c))+(d*d))"))(tri.Square(of[step](2, "a", "b", "c", "d")))
	told(t, "Square of one", of[step](1, "(0+(a*a))"))(tri.Square(of[step](1, "a")))
	told(t, "Root of one", of[step](1, "root(a-0)"))(tri.Root(of[step](1, "a")))
	solved[step](t, "Solve of one", "((p-0)/a)")(tri.Solve(of[step](1, "a"), []step{"p"}))

	m := of[step](3, "a", "x", "y", "b", "c", "z", "d", "e", "f")
	first := step("root(a-0)")
	second, third := "((b-0)/"+first+")", "((d-0)/"+first+")"
	fourth := "root(c-(0+(" + second + "*" + second + ")))"
	fifth := "((e-(0+(" + third + "*" + second + ")))/" + fourth + ")"
	sixth := "root(f-((0+(" + third + "*" + third + "))+(" + fifth + "*" + fifth + ")))"
	done = nil
	told(t, "Root", of(3, first, "0", "0", second, fourth, "0", third, fifth, sixth))(tri.Root(m))
	like(t, "the order of Root", done, []step{first, second, third, fourth, fifth, sixth})

	p := step("((p-0)/a)")
	q := "((q-(0+(b*" + p + ")))/c)"
	r := "((r-((0+(d*" + p + "))+(e*" + q + ")))/f)"
	done = nil
	solved(t, "Solve", p, q, r)(tri.Solve(m, []step{"p", "q", "r"}))
	like(t, "the order of Solve", done, []step{p, q, r})
}

// less is what the products of the first numbers of both leave of x, reckoned one by one.
func less[T vec.Field[T]](x T, a, b []T) T {
	sum := x.Of(0)
	for i := range a {
		sum = sum.Add(a[i].Mul(b[i]))
	}
	return x.Sub(sum)
}

// reckoned is Root and Solve as the words say them, of a matrix that may be anything, written row by row.
func reckoned[T vec.Field[T]](n int, m, b []T) (root, x []T) {
	root = make([]T, n*n)
	for i := range n {
		for k := range n {
			switch {
			case k > i:
				root[i*n+k] = m[0].Of(0)
			case k == i:
				root[i*n+i] = less(m[i*n+i], root[i*n:i*n+i], root[i*n:i*n+i]).Root()
			default:
				root[i*n+k] = less(m[i*n+k], root[i*n:i*n+k], root[k*n:k*n+k]).Div(root[k*n+k])
			}
		}
		x = append(x, less(b[i], m[i*n:i*n+i], x).Div(m[i*n+i]))
	}
	return root, x
}

// P7.2: whatever the numbers are, 0 and below 0 on the diagonal and without a root too, what is told is what was reckoned.
func TestReckoned(t *testing.T) {
	for n := 1; n <= 16; n++ {
		for seed := range 12 {
			most := []int{1, 4, 60}[seed%3]
			l, b := mixed(uint64(n*20+seed), n*n, most), vec.Whole[num](mixed(uint64(seed)+5, n, most))
			if seed >= 6 { // greater diagonals, so that not all is Bad
				for i := range n {
					l[i*n+i] += 2 * n * most
				}
			}
			m, f := wholes[num](n, l...), wholes[fraction](n, l...)
			root, x := reckoned(n, m.L, b)
			told(t, "Root", of(n, root...))(tri.Root(m))
			solved(t, "Solve", x...)(tri.Solve(m, b))
			exact, y := reckoned(n, f.L, f.L[:n])
			told(t, "Root", of(n, exact...))(tri.Root(f))
			solved(t, "Solve", y...)(tri.Solve(f, f.L[:n]))
		}
	}
}

// P7.2: the examples, and others by hand, in fractions.
func TestRootFractions(t *testing.T) {
	told(t, "Root", wholes[fraction](2, 2, 0, 1, 2))(tri.Root(wholes[fraction](2, 4, 2, 2, 5)))
	told(t, "Root", wholes[fraction](3, 2, 0, 0, 1, 3, 0, -1, 4, 1))(tri.Root(wholes[fraction](3, 4, 2, -2, 2, 10, 11, -2, 11, 18)))
	told(t, "Root", of(2, fractions(2, 3, 0, 1, -1, 2, 5, 4)...))(tri.Root(of(2, fractions(4, 9, 7, 7, -1, 3, 29, 16)...)))
	told(t, "Root of one", of(1, fractions(3, 5)...))(tri.Root(of(1, fractions(9, 25)...)))
	told(t, "Root without one", of(2, badFraction, frac.New(0, 1), badFraction, badFraction))(tri.Root(wholes[fraction](2, 2, 0, 1, 2)))
	solved(t, "Solve", fractions(2, 1, 1, 1, 1, 1)...)(tri.Solve(wholes[fraction](3, 2, 9, 9, 1, 3, 9, -1, 4, 1), fractions(4, 1, 5, 1, 3, 1)))
	solved(t, "Solve", fractions(1, 6, -35, 12)...)(tri.Solve(of(2, fractions(2, 1, 8, 1, 1, 2, -1, 5)...), fractions(1, 3, 2, 3)))
	solved(t, "Solve of one", frac.New(-3, 2))(tri.Solve(wholes[fraction](1, -4), fractions(6, 1)))
}

// P7.2: the root of 2, and quotients that have no exact units: bounds are rounded away from each other.
func TestRootEnclosed(t *testing.T) {
	root := num{V: 23726566, Low: 23726566, High: 23726567}
	told(t, "Root of one", of(1, root))(tri.Root(wholes[num](1, 2)))
	got, is := tri.Root(wholes[num](2, 2, 0, 1, 2))
	half := env.Point(one).Div(root)
	told(t, "Root", of(2, root, env.Point(0), half, env.Point(2*one).Sub(half.Mul(half)).Root()))(got, is)
	if low := got.At(1, 0); low.Low >= low.High || low.Bad {
		t.Error("Root has", low)
	}
	third := num{V: 5592405, Low: 5592405, High: 5592406}
	solved(t, "Solve", third, env.Point(one).Sub(third))(tri.Solve(wholes[num](2, 3, 5, 1, 1), vec.Whole[num]([]int{1, 1})))
	told(t, "Root", wholes[num](2, 2, 0, 1, 2))(tri.Root(wholes[num](2, 4, 2, 2, 5)))
	solved(t, "Solve", vec.Whole[num]([]int{2, 1, 1})...)(tri.Solve(wholes[num](3, 2, 9, 9, 1, 3, 9, -1, 4, 1), vec.Whole[num]([]int{4, 5, 3})))
}

// aboveIsNothing puts numbers above the diagonal that are unlike those below it, one of them Bad, at each place: Root and
// Solve tell the same.
func aboveIsNothing[T number[T]](t *testing.T, n int, bad T) {
	s := wholes[T](n, lower(uint64(n)+70, n, 5)...)
	p, _ := tri.Square(s)
	b := vec.Whole[T](mixed(uint64(n), n, 30))
	root, _ := tri.Root(p)
	x, _ := tri.Solve(s, b)
	for i := range n {
		for k := i + 1; k < n; k++ {
			told(t, "Root", root)(tri.Root(of(n, with(p.L, i*n+k, bad)...)))
			solved(t, "Solve", x...)(tri.Solve(of(n, with(s.L, i*n+k, bad)...), b))
		}
	}
	other := func(i, k int) T { return bad.Of(1000*i - k) }
	told(t, "Root", root)(tri.Root(of(n, over(n, p.L, other)...)))
	solved(t, "Solve", x...)(tri.Solve(of(n, over(n, s.L, other)...), b))
	told(t, "Root", s)(root, true)
}

func TestAboveIsNothing(t *testing.T) {
	for _, n := range []int{1, 2, 3, 7, 16} {
		aboveIsNothing(t, n, badFraction)
		aboveIsNothing(t, n, badNum)
	}
}

// notAbove0 puts a 0, and a number below 0, on the diagonal, and where such ones are left of it.
func notAbove0[T number[T]](t *testing.T, bad T) {
	zero := bad.Of(0)
	told(t, "Root of 0", of(1, zero))(tri.Root(wholes[T](1, 0)))
	told(t, "Root below 0", of(1, bad))(tri.Root(wholes[T](1, -4)))
	told(t, "Root, 0 first", of(2, zero, zero, bad, bad))(tri.Root(wholes[T](2, 0, 0, 0, 1)))
	told(t, "Root, below 0 first", of(2, bad, zero, bad, bad))(tri.Root(wholes[T](2, -1, 0, 0, 1)))
	told(t, "Root, 0 left at the end", wholes[T](2, 2, 0, 1, 0))(tri.Root(wholes[T](2, 4, 2, 2, 1)))
	told(t, "Root, less than 0 left at the end", of(2, bad.Of(2), zero, bad.Of(1), bad))(tri.Root(wholes[T](2, 4, 2, 2, 0)))
	told(t, "Root, 0 left in the middle", of(3, bad.Of(2), zero, zero, bad.Of(1), zero, zero, bad.Of(3), bad, bad))(tri.Root(wholes[T](3, 4, 0, 0, 2, 1, 0, 6, 3, 99)))
	told(t, "Root, none looked at", of(3, bad.Of(3), zero, zero, bad.Of(-1), bad, zero, bad.Of(2), bad, bad))(tri.Root(wholes[T](3, 9, 0, 0, -3, -5, 0, 6, 0, 50)))
	five := vec.Whole[T]([]int{5, 6, 7})
	solved(t, "Solve by 0", bad)(tri.Solve(wholes[T](1, 0), five[:1]))
	solved(t, "Solve of 0 by 0", bad)(tri.Solve(wholes[T](1, 0), []T{zero}))
	solved(t, "Solve below 0", bad.Of(-5))(tri.Solve(wholes[T](1, -1), five[:1]))
	solved(t, "Solve, 0 in the middle", bad.Of(5), bad, bad)(tri.Solve(wholes[T](3, 1, 0, 0, 1, 0, 0, 1, 1, 1), five))
	solved(t, "Solve, 0 at the end", bad.Of(5), bad.Of(1), bad)(tri.Solve(wholes[T](3, 1, 0, 0, 1, 1, 0, 1, 1, 0), five))
	solved(t, "Solve, below 0", bad.Of(5), bad.Of(-1), bad.Of(2))(tri.Solve(wholes[T](3, 1, 0, 0, 1, -1, 0, 1, 2, 2), five))
}

func TestDiagonalNotAbove0(t *testing.T) {
	notAbove0(t, badFraction)
	notAbove0(t, badNum)
	// By what encloses 0 there is no quotient, though its V is above 0.
	solved(t, "Solve by about 0", badNum)(tri.Solve(of(1, num{V: one, Low: 0, High: one}), []num{env.Point(one)}))
	told(t, "Root of about 0", of(2, badNum, env.Point(0), badNum, badNum))(tri.Root(of(2, num{V: one, Low: -1, High: one}, env.Point(0), env.Point(0), env.Point(one))))
	told(t, "Root of 0 and more", of(2, num{V: one, Low: 0, High: one}, env.Point(0), badNum, badNum))(tri.Root(of(2, num{V: one, Low: 0, High: one}, env.Point(0), env.Point(0), env.Point(one))))
}

// P7.2: b is just as long, one shorter, one longer, or nothing; the room behind its end does not count.
func asLong[T number[T]](t *testing.T, n int) {
	s := wholes[T](n, lower(9, n, 9)...)
	b := vec.Whole[T](counted(300))
	for _, count := range []int{0, 1, n - 1, n, n + 1, 2 * n, n * n, 300} {
		if count == n {
			_, x := reckoned(n, s.L, b)
			solved(t, "Solve", x...)(tri.Solve(s, b[:n]))
		} else {
			unsolved[T](t, "Solve of another length")(tri.Solve(s, b[:count]))
			unsolved[T](t, "Solve of another length")(tri.Solve(s, slices.Clip(b[:count])))
		}
	}
	unsolved[T](t, "Solve of nothing")(tri.Solve(s, nil))
}

func TestLengths(t *testing.T) {
	for n := 1; n <= 16; n++ {
		asLong[num](t, n)
	}
	for n := 1; n <= 4; n++ {
		asLong[fraction](t, n)
	}
}

// P7.2: s, cleared, times what is solved is b again; what stands above the diagonal does not matter.
func solvedBack[T number[T]](t *testing.T, n int) {
	l := over(n, lower(uint64(n)+500, n, 9), func(i, k int) int { return i + k + 1 })
	s, want := wholes[T](n, l...), vec.Whole[T](mixed(uint64(n), n, 40))
	c, _ := tri.Clear(s)
	b, _ := c.Apply(want)
	solved(t, "Solve", want...)(tri.Solve(s, b))
	solved(t, "Solve of a triangle", want...)(tri.Solve(c, b))
}

func TestSolvedBack(t *testing.T) {
	for n := 1; n <= 16; n++ {
		solvedBack[fraction](t, n)
		solvedBack[num](t, n)
	}
	for n := range 200 {
		s, x := ratios(uint64(n), n%4+1), ratios(uint64(n)+900, n%4+1).Col(0)
		b, _ := s.Apply(x)
		solved(t, "Solve", x...)(tri.Solve(s, b))
	}
}

// ratios are fractions of a triangle, above 0 on its diagonal.
func ratios(seed uint64, n int) mat.Mat[fraction] {
	var l []fraction
	for i, x := range lower(seed, n, 6) {
		l = append(l, frac.New(x, i%3+1))
	}
	return of(n, l...)
}

// P7.3: a triangle, above 0 on its diagonal, is the Root of its square.
func rootOfSquare[T number[T]](t *testing.T, s mat.Mat[T]) {
	t.Helper()
	p, is := tri.Square(s)
	if !is || slices.Contains(p.L, s.L[0].Of(0).Div(s.L[0].Of(0))) {
		t.Fatal("Square is", p, is)
	}
	told(t, "Root of a square", s)(tri.Root(p))
	turned := p.Turn()
	like(t, "a square, turned", turned.L, p.L)
	root, _ := tri.Root(p)
	told(t, "Square of a Root", p)(tri.Square(root))
}

func TestRootOfSquare(t *testing.T) {
	for n := 1; n <= 16; n++ {
		for seed := range 20 {
			l := lower(uint64(100*n+seed), n, 1+seed*seed)
			rootOfSquare(t, wholes[fraction](n, l...))
			rootOfSquare(t, wholes[num](n, l...))
		}
	}
	for n := range 400 {
		rootOfSquare(t, ratios(uint64(n), n%4+1))
	}
	rootOfSquare(t, wholes[fraction](1, 1<<15))
	rootOfSquare(t, of(1, frac.New(1, 1<<15)))
	rootOfSquare(t, of(1, env.Point(one<<13)))
}

// P7.3: a column whose number on the diagonal is below 0 is told as its Neg: the Root has no number below 0 there.
func TestRootOfSquareBelow0(t *testing.T) {
	for n := 1; n <= 16; n++ {
		l := lower(uint64(n), n, 7)
		for k := range n {
			turned := slices.Clone(l)
			for i := range n {
				turned[i*n+k] = -turned[i*n+k]
			}
			p, _ := tri.Square(wholes[fraction](n, turned...))
			told(t, "Root of a square", wholes[fraction](n, l...))(tri.Root(p))
			q, _ := tri.Square(wholes[num](n, turned...))
			told(t, "Root of a square", wholes[num](n, l...))(tri.Root(q))
		}
	}
}

// holds asks that each of m encloses the exact number there.
func holds(t *testing.T, name string, m []num, exact []*big.Rat) {
	t.Helper()
	if len(m) != len(exact) {
		t.Fatal(name, "has", len(m), "numbers, not", len(exact))
	}
	for i, x := range exact {
		if !env.Encloses(m[i], int(x.Num().Int64()), int(x.Denom().Int64())) {
			t.Error(name, "has", m[i], "and exactly", x)
		}
	}
}

// P7.3: of enclosed quotients, which have no exact units, the square encloses the exact square, its Root the exact triangle,
// and what is solved the exact numbers.
func TestEnclosesExact(t *testing.T) {
	for n := 1; n <= 16; n++ {
		var exact, squared, x, b []*big.Rat
		s := of[num](n)
		for i, l := range lower(uint64(n)+11, n, 3) {
			if i%(n+1) == 0 { // so great a diagonal keeps bounds narrow
				l += 20
			}
			s.L = append(s.L, env.Point(l*one).Div(env.Point((i%2+6)*one)))
			exact = append(exact, big.NewRat(int64(l), int64(i%2+6)))
		}
		for i, l := range mixed(uint64(n), n, 50) {
			x = append(x, big.NewRat(int64(l), int64(i%3+3)))
		}
		for i := range n {
			b = append(b, exactDot(exact[i*n:(i+1)*n], x))
			for k := range n {
				squared = append(squared, exactDot(exact[i*n:(i+1)*n], exact[k*n:(k+1)*n]))
			}
		}
		p, _ := tri.Square(s)
		holds(t, "Square", p.L, squared)
		root, is := tri.Root(p)
		holds(t, "Root", root.L, exact)
		var enclosed []num
		for _, y := range b {
			enclosed = append(enclosed, env.Point(int(y.Num().Int64())*one).Div(env.Point(int(y.Denom().Int64())*one)))
		}
		got, isToo := tri.Solve(s, enclosed)
		holds(t, "Solve", got, x)
		if !is || !isToo || !tri.Is(root, nought[num]) {
			t.Error("Root and Solve of", n, "are", is, isToo)
		}
	}
}

func exactDot(a, b []*big.Rat) *big.Rat {
	sum := new(big.Rat)
	for i := range a {
		sum.Add(sum, new(big.Rat).Mul(a[i], b[i]))
	}
	return sum
}

// P7.3: what numbers with wide bounds enclose, at either end of each, is enclosed by the Root of their square.
func TestEnclosesEnds(t *testing.T) {
	for n := 1; n <= 8; n++ {
		s := of[num](n)
		for i, l := range lower(uint64(n)+77, n, 2) {
			x := env.Point(l * one)
			if i%n == i/n {
				x = env.Point((l + 20) * one)
			}
			if i%n <= i/n {
				x.Low, x.High = x.V-i*1000, x.V+i*700+5
			}
			s.L = append(s.L, x)
		}
		p, _ := tri.Square(s)
		root, is := tri.Root(p)
		for i, x := range s.L {
			r := root.L[i]
			if !is || r.Bad || r.Low > x.Low || r.High < x.High {
				t.Error("Root has", r, "of", x)
			}
		}
	}
}

// mayNotBe has nothing to tell, whatever it is asked.
func mayNotBe[T number[T]](t *testing.T, m mat.Mat[T]) {
	t.Helper()
	if tri.Is(m, func(x T) bool { return true }) || tri.Is(m, nought[T]) || tri.Is(m, nil) {
		t.Error("Is of", m)
	}
	none[T](t, "Clear")(tri.Clear(m))
	none[T](t, "Square")(tri.Square(m))
	none[T](t, "Root")(tri.Root(m))
	like(t, "Diagonal", tri.Diagonal(m), nil)
	for n := range 20 {
		unsolved[T](t, "Solve")(tri.Solve(m, vec.Whole[T](counted(n))))
	}
	unsolved[T](t, "Solve")(tri.Solve(m, nil))
	unsolved[T](t, "Solve")(tri.Solve(m, m.L))
}

func allThatMayNotBe[T number[T]](t *testing.T) {
	mayNotBe(t, mat.Mat[T]{})
	mayNotBe(t, mat.Mat[T]{L: []T{}})
	for rows := 1; rows <= 16; rows++ {
		for cols := 1; cols <= 16; cols++ {
			if rows != cols {
				mayNotBe(t, mat.Mat[T]{Rows: rows, Cols: cols, L: vec.Whole[T](make([]int, rows*cols))})
			}
		}
	}
	for _, s := range [][3]int{{2, 2, 3}, {2, 2, 5}, {2, 2, 0}, {1, 1, 0}, {1, 1, 2}, {0, 0, 1}, {0, 1, 0}, {1, 0, 0}, {-1, -1, 1}, {-2, -2, 4}, {2, 3, 4}, {3, 3, 6}, {4, 4, 9}, {17, 17, 289}, {17, 17, 256}, {16, 16, 255}, {16, 16, 257}, {math.MaxInt, math.MaxInt, 1}, {math.MinInt, math.MinInt, 0}, {1 << 32, 1 << 32, 0}, {1<<62 + 1, 1<<62 + 1, 1}, {1 << 31, 1 << 31, 4}} {
		// As many numbers as there should be, if the room behind the end were counted.
		l := vec.Whole[T](counted(400))
		mayNotBe(t, mat.Mat[T]{Rows: s[0], Cols: s[1], L: l[:s[2]]})
		mayNotBe(t, mat.Mat[T]{Rows: s[0], Cols: s[1], L: slices.Clip(l[:s[2]])})
		mayNotBe(t, mat.Mat[T]{Rows: s[0], Cols: s[1]})
	}
}

// P7.1, P7.2: the zero matrix, oblongs, and those whose Rows, Cols and L do not go together.
func TestMayNotBe(t *testing.T) {
	allThatMayNotBe[fraction](t)
	allThatMayNotBe[num](t)
}

// oneWrong puts each wrong number at each place: it is told where it comes in, and nowhere else.
func oneWrong[T number[T]](t *testing.T, bad T, wrongs ...T) {
	const n = 4
	l := lower(3, n, 6)
	s := wholes[T](n, over(n, l, func(i, k int) int { return 8 })...)
	p, _ := tri.Square(wholes[T](n, l...))
	squared, _ := tri.Square(s)
	cleared := wholes[T](n, l...)
	b := vec.Whole[T]([]int{3, -5, 7, 2})
	_, x := reckoned(n, s.L, b)
	for place := range n * n {
		i, k := place/n, place%n
		for _, wrong := range wrongs {
			m := of(n, with(s.L, place, wrong)...)
			is := tri.Is(m, func(y T) bool { return y == bad.Of(8) })
			if is != (k <= i) {
				t.Error("Is with a wrong number at", place, "is", is)
			}
			kept, diagonal := cleared, tri.Diagonal(s)
			if k <= i {
				kept = of(n, with(cleared.L, place, wrong)...)
			}
			if k == i {
				diagonal = with(diagonal, i, wrong)
			}
			told(t, "Clear", kept)(tri.Clear(m))
			like(t, "Diagonal", tri.Diagonal(m), diagonal)
			crossed := slices.Clone(squared.L)
			for j := range n {
				crossed[i*n+j], crossed[j*n+i] = bad, bad
			}
			told(t, "Square", of(n, crossed...))(tri.Square(m))
			told(t, "Root", ruined(cleared, i, k, bad))(tri.Root(of(n, with(p.L, place, wrong)...)))
			from := i
			if k > i {
				from = n
			}
			solved(t, "Solve", badFrom(x, from, bad)...)(tri.Solve(m, b))
			solved(t, "Solve", badFrom(x, i, bad)...)(tri.Solve(s, with(b, i, wrong)))
		}
	}
}

// badFrom is a row, Bad from a place on.
func badFrom[T any](l []T, from int, bad T) []T {
	return append(slices.Clone(l[:from]), slices.Repeat([]T{bad}, len(l)-from)...)
}

// ruined is a root, where row i, column k of what it is the root of is wrong: its row is Bad from there on, and so is all
// that comes of its number on the diagonal.
func ruined[T vec.Field[T]](root mat.Mat[T], i, k int, bad T) mat.Mat[T] {
	m := of(root.Rows, slices.Clone(root.L)...)
	for row := i; row < m.Rows && k <= i; row++ {
		first := i
		if row == i {
			first = k
		}
		for col := first; col <= row; col++ {
			m.L[row*m.Cols+col] = bad
		}
	}
	return m
}

// P7.1, P7.2: matrices, and rows, in which one number is Bad, or may not be.
func TestWrong(t *testing.T) {
	oneWrong(t, badFraction, badFraction, fraction{N: 1, D: 2, Bad: true}, fraction{}, fraction{N: 2, D: 4}, fraction{N: 1, D: -2}, fraction{N: top + 1, D: 1}, fraction{N: math.MinInt, D: math.MinInt})
	oneWrong(t, badNum, badNum, num{V: one, Low: one, High: one, Bad: true}, num{V: one, Low: 2 * one, High: one}, num{V: 3, Low: 1, High: 2}, num{V: api.Max + 1, Low: api.Max + 1, High: api.Max + 1}, num{V: math.MinInt, Low: math.MinInt, High: math.MaxInt})
}

// P7.1, P7.2: the greatest numbers there are: what may not be is Bad, and all calls end.
func TestGreatest(t *testing.T) {
	for _, n := range []int{1, 2, 16} {
		m := of(n, slices.Repeat([]num{env.Point(api.Max)}, n*n)...)
		told(t, "Square", of(n, slices.Repeat([]num{badNum}, n*n)...))(tri.Square(m))
		root, x := reckoned(n, m.L, m.L[:n])
		told(t, "Root", of(n, root...))(tri.Root(m))
		solved(t, "Solve", x...)(tri.Solve(m, m.L[:n]))
		f := of(n, slices.Repeat([]fraction{{N: -top, D: 1}}, n*n)...)
		told(t, "Square", of(n, slices.Repeat([]fraction{badFraction}, n*n)...))(tri.Square(f))
		exact, y := reckoned(n, f.L, f.L[:n])
		told(t, "Root", of(n, exact...))(tri.Root(f))
		solved(t, "Solve", y...)(tri.Solve(f, f.L[:n]))
	}
}

// P7.1, P7.2: what is handed in does not change, the room behind its end included, and no answer shares memory with it,
// or with another answer.
func TestMemory(t *testing.T) {
	l, k := fractions(4, 1, 2, 3, 2, 1, 5, 1, 9, 1, 8, 1), fractions(4, 1, 5, 1, 6, 1, 7, 1, 8, 1, 3, 1)
	lWas, kWas := slices.Clone(l), slices.Clone(k)
	a, single := of(2, l[:4]...), of(1, l[:1]...)
	list := func(m mat.Mat[fraction], _ bool) []fraction { return m.L }
	row := func(x []fraction, _ bool) []fraction { return x }
	calls := []func() []fraction{
		func() []fraction { return list(tri.Clear(a)) },
		func() []fraction { return list(tri.Clear(single)) },
		func() []fraction { return list(tri.Square(a)) },
		func() []fraction { return list(tri.Square(single)) },
		func() []fraction { return list(tri.Root(a)) },
		func() []fraction { return list(tri.Root(single)) },
		func() []fraction { return tri.Diagonal(a) },
		func() []fraction { return tri.Diagonal(single) },
		func() []fraction { return row(tri.Solve(a, k[:2])) },
		func() []fraction { return row(tri.Solve(single, k[:1])) },
		func() []fraction { return row(tri.Solve(a, l[:2])) },
	}
	tri.Is(a, func(fraction) bool { return true })
	var was, again [][]fraction
	for _, call := range calls {
		first, second := call(), call()
		was = append(was, slices.Clone(first))
		again = append(again, second)
		spoil(first)
	}
	for i, l := range again {
		if len(l) == 0 {
			t.Error("no answer of call", i)
		}
		like(t, "an answer beside another one that has changed", l, was[i])
	}
	like(t, "what was handed in", l, lWas)
	like(t, "what was handed in", k, kWas)
}

// spoil writes over a row, and over the room behind its end.
func spoil(l []fraction) {
	l = l[:cap(l)]
	for i := range l {
		l[i] = fraction{N: 77, D: 1}
	}
}
