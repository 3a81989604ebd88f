package mat_test

import (
	"math"
	"math/big"
	"slices"
	"strconv"
	"testing"

	"couplet/api"
	"couplet/env"
	"couplet/frac"
	"couplet/mat"
	"couplet/vec"
)

const (
	one = api.Unit
	top = api.MaxFrac
)

type (
	fraction = frac.Frac
	num      = env.Num
)

var (
	badFraction = fraction{Bad: true}
	badNum      = num{Bad: true}
)

// number is a kind of numbers that can be held against each other.
type number[T any] interface {
	comparable
	vec.Field[T]
}

// step is a kind of numbers that says what was done, of what, and in which order.
type step string

func (a step) Add(b step) step { return "(" + a + "+" + b + ")" }
func (a step) Sub(b step) step { return "(" + a + "-" + b + ")" }
func (a step) Mul(b step) step { return "(" + a + "*" + b + ")" }
func (a step) Div(b step) step { return "(" + a + "/" + b + ")" }
func (a step) Root() step      { return "root" + a }
func (a step) Neg() step       { return "neg" + a }
func (a step) Sign() int       { return 0 }
func (a step) Of(n int) step   { return step(strconv.Itoa(n)) }

// fractions are n by d of each two numbers.
func fractions(parts ...int) []fraction {
	var l []fraction
	for p := range slices.Chunk(parts, 2) {
		l = append(l, frac.New(p[0], p[1]))
	}
	return l
}

// mixed are whole numbers of at most so much either way, always the same ones.
func mixed(seed uint64, count, most int) []int {
	x := seed*2 + 0x9e3779b97f4a7c15
	var l []int
	for range count {
		x ^= x << 13
		x ^= x >> 7
		x ^= x << 17
		l = append(l, int(x>>16)%(2*most+1)-most)
	}
	return l
}

// counted are the whole numbers from 1 on.
func counted(count int) []int {
	var l []int
	for i := range count {
		l = append(l, i+1)
	}
	return l
}

// of is a matrix that is not made by the calls that are tested.
func of[T vec.Field[T]](rows, cols int, l ...T) mat.Mat[T] {
	return mat.Mat[T]{Rows: rows, Cols: cols, L: l}
}

func wholes[T vec.Field[T]](rows, cols int, l ...int) mat.Mat[T] {
	return mat.Mat[T]{Rows: rows, Cols: cols, L: vec.Whole[T](l)}
}

// with is a row, but for one number of it.
func with[T any](l []T, i int, x T) []T {
	l = slices.Clone(l)
	l[i] = x
	return l
}

// like holds a row against what it should be; none is as good as an empty one.
func like[T comparable](t *testing.T, name string, got, want []T) {
	t.Helper()
	if !slices.Equal(got, want) {
		t.Error(name, "is", got, "not", want)
	}
}

// same holds a matrix against what it should be.
func same[T number[T]](t *testing.T, name string, got, want mat.Mat[T]) {
	t.Helper()
	if got.Rows != want.Rows || got.Cols != want.Cols || !slices.Equal(got.L, want.L) {
		t.Error(name, "is", got, "not", want)
	}
}

// told holds a matrix that there must be against what it should be.
func told[T number[T]](t *testing.T, name string, want mat.Mat[T]) func(mat.Mat[T], bool) {
	return func(got mat.Mat[T], is bool) {
		t.Helper()
		same(t, name, got, want)
		if !is {
			t.Error(name, "is false")
		}
	}
}

// none asks for the zero matrix, and false.
func none[T number[T]](t *testing.T, name string) func(mat.Mat[T], bool) {
	return func(got mat.Mat[T], is bool) {
		t.Helper()
		if is || got.Rows != 0 || got.Cols != 0 || len(got.L) != 0 {
			t.Error(name, "is", got, is)
		}
	}
}

// may tells of a matrix's sides, and of how many numbers it has, whether they go together.
func may(rows, cols, count int) bool {
	sides := rows > 0 && rows < 17 && cols > 0 && cols < 17
	return sides && count == rows*cols
}

// P6.1: New, Whole and Right of all sides about the least and the greatest, with lists of just as many numbers, of one
// fewer, and of one more.
func TestSides(t *testing.T) {
	for rows := -2; rows <= 18; rows++ {
		for cols := -2; cols <= 18; cols++ {
			for _, count := range []int{0, 1, rows*cols - 1, rows * cols, rows*cols + 1} {
				if count < 0 {
					continue
				}
				list := counted(count)
				want := wholes[fraction](rows, cols, list...)
				if want.Right() != may(rows, cols, count) {
					t.Error("Right of", rows, cols, count, "is", want.Right())
				}
				if may(rows, cols, count) {
					told(t, "New", want)(mat.New(rows, cols, want.L))
					told(t, "Whole", want)(mat.Whole[fraction](rows, cols, list))
				} else {
					none[fraction](t, "New")(mat.New(rows, cols, want.L))
					none[fraction](t, "Whole")(mat.Whole[fraction](rows, cols, list))
				}
			}
		}
	}
}

// P6.1: sides whose product wraps round to as many numbers as there are, and other huge ones.
func TestHugeSides(t *testing.T) {
	for _, s := range [][2]int{{math.MaxInt, 1}, {1, math.MaxInt}, {math.MinInt, 1}, {1 << 32, 1 << 32}, {math.MinInt, 2}, {2, 1 << 63 >> 1}, {-1, -1}, {-2, -2}, {math.MinInt, math.MinInt}, {math.MaxInt, math.MaxInt}, {4, 1<<62 + 1}, {0, 0}, {0, math.MaxInt}, {17, 1}, {1, 17}} {
		for _, count := range []int{0, 1, 2, 4, 17} {
			m := wholes[num](s[0], s[1], counted(count)...)
			if m.Right() {
				t.Error("Right of", s, count)
			}
			none[num](t, "New")(mat.New(s[0], s[1], m.L))
			none[num](t, "Whole")(mat.Whole[num](s[0], s[1], counted(count)))
		}
	}
}

// P6.1: nil lists, and empty ones, make no matrix.
func TestNoNumbers(t *testing.T) {
	for _, s := range [][2]int{{0, 0}, {1, 1}, {0, 1}, {1, 0}, {2, 3}, {16, 16}} {
		for _, l := range [][]fraction{nil, {}} {
			none[fraction](t, "New of nothing")(mat.New(s[0], s[1], l))
			if (mat.Mat[fraction]{Rows: s[0], Cols: s[1], L: l}).Right() {
				t.Error("Right of nothing", s)
			}
		}
		for _, l := range [][]int{nil, {}} {
			none[fraction](t, "Whole of nothing")(mat.Whole[fraction](s[0], s[1], l))
		}
	}
}

// P6.1: New keeps numbers as they are, wrong ones too; Whole makes those Bad that may not be.
func TestNumbersAsTheyAre(t *testing.T) {
	odd := []fraction{badFraction, {}, {N: 2, D: 4}, {N: 1, D: 2}, {N: 1, D: 1, Bad: true}, {N: 0, D: 1}}
	told(t, "New", of(2, 3, odd...))(mat.New(2, 3, odd))
	bounds := []num{badNum, {V: 3, Low: 5, High: 4}, {V: 3, Low: 2, High: 4}, env.Point(7)}
	told(t, "New", of(2, 2, bounds...))(mat.New(2, 2, bounds))
	told(t, "Whole", of(1, 4, fraction{N: top, D: 1}, badFraction, fraction{N: -top, D: 1}, badFraction))(mat.Whole[fraction](1, 4, []int{top, top + 1, -top, math.MinInt}))
	told(t, "Whole", of(3, 1, env.Point(api.Max), badNum, env.Point(-5*one)))(mat.Whole[num](3, 1, []int{api.Max / one, api.Max/one + 1, -5}))
	told(t, "Whole", of[step](2, 2, "7", "-8", "7", "0"))(mat.Whole[step](2, 2, []int{7, -8, 7, 0}))
	if !of(1, 1, badFraction).Right() || !of(1, 2, badNum, badNum).Right() {
		t.Error("Right of one that has a Bad number")
	}
}

// P6.1: Unit of all sides that may be, and of others.
func TestUnit(t *testing.T) {
	for n := 1; n <= 16; n++ {
		l := make([]int, n*n)
		for i := range n {
			l[i*(n+1)] = 1
		}
		told(t, "Unit", wholes[fraction](n, n, l...))(mat.Unit[fraction](n))
		told(t, "Unit", wholes[num](n, n, l...))(mat.Unit[num](n))
	}
	told(t, "Unit of steps", of[step](3, 3, "1", "0", "0", "0", "1", "0", "0", "0", "1"))(mat.Unit[step](3))
	for _, n := range []int{0, -1, -16, 17, 256, 1 << 31, 1 << 32, math.MaxInt, math.MinInt} {
		none[fraction](t, "Unit")(mat.Unit[fraction](n))
		none[num](t, "Unit")(mat.Unit[num](n))
	}
}

// P6.1: each place, row and column of matrices of all sides, and those just beyond.
func TestPlaces(t *testing.T) {
	for rows := 1; rows <= 16; rows++ {
		for cols := 1; cols <= 16; cols++ {
			m := wholes[fraction](rows, cols, counted(rows*cols)...)
			for i := -1; i <= rows; i++ {
				for k := -1; k <= cols; k++ {
					want := fraction{}
					if i >= 0 && i < rows && k >= 0 && k < cols {
						want = fraction{N: i*cols + k + 1, D: 1}
					}
					if got := m.At(i, k); got != want {
						t.Error("At", i, k, "of", rows, cols, "is", got)
					}
				}
			}
			for i := range rows {
				like(t, "Row", m.Row(i), m.L[i*cols:i*cols+cols])
			}
			for k := range cols {
				var want []fraction
				for i := range rows {
					want = append(want, m.L[i*cols+k])
				}
				like(t, "Col", m.Col(k), want)
			}
			like(t, "Row beyond", m.Row(-1), nil)
			like(t, "Row beyond", m.Row(rows), nil)
			like(t, "Col beyond", m.Col(-1), nil)
			like(t, "Col beyond", m.Col(cols), nil)
		}
	}
}

// P6.1: rows and columns that there are not, far away, and where their places would wrap round.
func TestNoPlaces(t *testing.T) {
	m := wholes[num](2, 4, counted(8)...)
	for _, i := range []int{-1, -2, -4, 4, 8, 1 << 32, 1 << 61, 1 << 62, math.MaxInt, math.MaxInt - 3, math.MinInt} {
		like(t, "Row beyond", m.Row(i), nil)
		like(t, "Col beyond", m.Col(i), nil)
		for k := range 4 {
			if a, b := m.At(i, k), m.At(k, i); a != (num{}) || b != (num{}) {
				t.Error("At", i, k, "is", a, b)
			}
		}
	}
}

// gone is what All goes through, till it is told false (at row number stop, from 0 on), and how often it asked.
func gone[T any](all func(yield func(i int, row []T) bool), stop int) (l []T, asked int, order bool) {
	order = true
	all(func(i int, row []T) bool {
		order = order && i == asked
		l = append(l, row...)
		asked++
		return asked <= stop
	})
	return l, asked, order
}

// P6.1: all rows, in order, of matrices of all sides.
func TestAll(t *testing.T) {
	for rows := 1; rows <= 16; rows++ {
		for cols := 1; cols <= 16; cols++ {
			m := wholes[fraction](rows, cols, counted(rows*cols)...)
			l, asked, order := gone(m.All(), 99)
			like(t, "All", l, m.L)
			if asked != rows || !order {
				t.Error("All of", rows, cols, "asked", asked, order)
			}
			for i, row := range m.All() {
				like(t, "a row of All", row, m.Row(i))
			}
		}
	}
}

// P6.1: told false at the first row, in the middle, at the last one: it asks no more.
func TestAllToldFalse(t *testing.T) {
	m := wholes[num](5, 3, counted(15)...)
	all := m.All()
	for stop := range 5 {
		for range 2 { // what was left can be gone through again, from the first row on
			l, asked, order := gone(all, stop)
			like(t, "All told false", l, m.L[:3*(stop+1)])
			if asked != stop+1 || !order {
				t.Error("All told false at", stop, "asked", asked, order)
			}
		}
		last := -1
		for i := range all {
			last = i
			if i == stop {
				break
			}
		}
		if last != stop {
			t.Error("All left at", stop, "went to", last)
		}
	}
	if l, asked, _ := gone(wholes[num](1, 2, 1, 2).All(), 0); asked != 1 || len(l) != 2 {
		t.Error("All of one row, told false:", l, asked)
	}
	all(nil)
	mat.Mat[num]{}.All()(nil)
}

// P6.1: what All goes through is not m's own memory, and no row of it is that of another one.
func TestAllKeepsNothing(t *testing.T) {
	m := wholes[fraction](3, 2, 1, 2, 3, 4, 5, 6)
	was := slices.Clone(m.L)
	all := m.All()
	spoil(m.L)
	for range 2 {
		var l []fraction
		for _, row := range all {
			l = append(l, row...)
			spoil(row)
			spoil(m.L)
		}
		like(t, "All of what has changed", l, was)
	}
	m = wholes[fraction](3, 2, 1, 2, 3, 4, 5, 6)
	for _, row := range m.All() {
		spoil(row)
	}
	like(t, "what was gone through", m.L, was)
}

// P6.2: Turn, Mirror and Beside of all sides, number by number.
func TestMoved(t *testing.T) {
	for rows := 1; rows <= 16; rows++ {
		for cols := 1; cols <= 16; cols++ {
			m := wholes[fraction](rows, cols, counted(rows*cols)...)
			turned := m.Turn()
			if !turned.Right() || turned.Rows != cols || turned.Cols != rows {
				t.Fatal("Turn of", rows, cols, "is", turned)
			}
			for i := range rows {
				like(t, "a column that was a row", turned.Col(i), m.Row(i))
			}
			mirror(t, m)
			beside(t, m)
		}
	}
}

func mirror(t *testing.T, m mat.Mat[fraction]) {
	if m.Rows != m.Cols {
		none[fraction](t, "Mirror of an oblong one")(m.Mirror())
		return
	}
	want := slices.Clone(m.L)
	for i := range m.Rows {
		for k := range i {
			want[k*m.Cols+i] = m.L[i*m.Cols+k]
		}
	}
	told(t, "Mirror", of(m.Rows, m.Cols, want...))(m.Mirror())
}

func beside(t *testing.T, m mat.Mat[fraction]) {
	for cols := 1; cols <= 16; cols++ {
		b := wholes[fraction](m.Rows, cols, mixed(uint64(cols), m.Rows*cols, 50)...)
		if m.Cols+cols > 16 {
			none[fraction](t, "Beside, of too many columns")(m.Beside(b))
			none[fraction](t, "Beside, of too many columns")(b.Beside(m))
			continue
		}
		both, is := m.Beside(b)
		if !is || !both.Right() || both.Rows != m.Rows || both.Cols != m.Cols+cols {
			t.Fatal("Beside is", both, is)
		}
		for i := range m.Rows {
			like(t, "a row beside another one", both.Row(i), slices.Concat(m.Row(i), b.Row(i)))
		}
	}
}

// P6.2: the examples, and others by hand, in fractions.
func TestFractions(t *testing.T) {
	a, b := wholes[fraction](2, 2, 1, 2, 3, 4), wholes[fraction](2, 2, 0, 1, 1, 0)
	told(t, "Mul", wholes[fraction](2, 2, 2, 1, 4, 3))(a.Mul(b))
	told(t, "Mul", wholes[fraction](2, 2, 3, 4, 1, 2))(b.Mul(a))
	told(t, "Add", wholes[fraction](2, 2, 1, 3, 4, 4))(a.Add(b))
	told(t, "Sub", wholes[fraction](2, 2, 1, 1, 2, 4))(a.Sub(b))
	told(t, "Sub", wholes[fraction](2, 2, -1, -1, -2, -4))(b.Sub(a))
	told(t, "Beside", wholes[fraction](2, 4, 1, 2, 0, 1, 3, 4, 1, 0))(a.Beside(b))
	told(t, "Mirror", wholes[fraction](2, 2, 1, 3, 3, 4))(a.Mirror())
	same(t, "Turn", a.Turn(), wholes[fraction](2, 2, 1, 3, 2, 4))
	c, d := of(2, 3, fractions(1, 2, -2, 3, 5, 1, 0, 1, 3, 4, -1, 6)...), of(3, 1, fractions(4, 1, 3, 2, -1, 5)...)
	told(t, "Mul", of(2, 1, fractions(0, 1, 139, 120)...))(c.Mul(d))
	told(t, "Add", of(2, 3, fractions(1, 1, -4, 3, 10, 1, 0, 1, 3, 2, -1, 3)...))(c.Add(c))
	told(t, "Sub", wholes[fraction](2, 3, 0, 0, 0, 0, 0, 0))(c.Sub(c))
	told(t, "Mul of one", of(1, 1, fractions(-2, 15)...))(of(1, 1, fractions(2, 3)...).Mul(of(1, 1, fractions(-1, 5)...)))
	told(t, "a column times a row", wholes[fraction](3, 2, 4, 5, 8, 10, 12, 15))(wholes[fraction](3, 1, 1, 2, 3).Mul(wholes[fraction](1, 2, 4, 5)))
	told(t, "a row times a column", wholes[fraction](1, 1, 32))(wholes[fraction](1, 3, 1, 2, 3).Mul(wholes[fraction](3, 1, 4, 5, 6)))
	v, is := c.Apply(d.L)
	like(t, "Apply", v, fractions(0, 1, 139, 120))
	w, isToo := a.Apply(vec.Whole[fraction]([]int{-1, 1}))
	like(t, "Apply", w, fractions(1, 1, 1, 1))
	if !is || !isToo {
		t.Error("Apply is", is, isToo)
	}
}

// P6.2: enclosed numbers by hand: bounds go along, and products are rounded away from each other.
func TestEnclosed(t *testing.T) {
	a := of(1, 3, num{V: 4, Low: 2, High: 5}, num{V: -one, Low: -2 * one, High: one}, num{V: 7, Low: 7, High: 7})
	b := of(1, 3, env.Point(3), env.Point(2*one), env.Point(0))
	// 4 units by 3 units is far less than half a unit; so it is of the bounds, all above 0.
	dot := num{V: -2 * one, Low: -4 * one, High: 2*one + 1}
	told(t, "Mul", of(1, 1, dot))(a.Mul(b.Turn()))
	v, is := a.Apply(b.L)
	like(t, "Apply", v, []num{dot})
	if !is {
		t.Error("Apply is false")
	}
	told(t, "Add", of(1, 3, num{V: 7, Low: 5, High: 8}, num{V: one, Low: 0, High: 3 * one}, env.Point(7)))(a.Add(b))
	told(t, "Sub", of(1, 3, num{V: 1, Low: -1, High: 2}, num{V: -3 * one, Low: -4 * one, High: -one}, env.Point(7)))(a.Sub(b))
	told(t, "Sub", of(1, 3, num{V: -1, Low: -2, High: 1}, num{V: 3 * one, Low: one, High: 4 * one}, env.Point(-7)))(b.Sub(a))
	told(t, "Beside", of(1, 6, slices.Concat(a.L, b.L)...))(a.Beside(b))
	same(t, "Turn", a.Turn(), of(3, 1, a.L...))
	told(t, "Mirror", of(2, 2, a.L[0], a.L[2], a.L[2], a.L[1]))(of(2, 2, a.L[0], b.L[0], a.L[2], a.L[1]).Mirror())
	told(t, "Mul", wholes[num](2, 2, 2, 1, 4, 3))(wholes[num](2, 2, 1, 2, 3, 4).Mul(wholes[num](2, 2, 0, 1, 1, 0)))
}

// P6.2: what is done, and in which order: of a row and a column the row's number stands first.
func TestSteps(t *testing.T) {
	m, b := of[step](2, 2, "a", "b", "c", "d"), of[step](2, 2, "w", "x", "y", "z")
	told(t, "Mul", of[step](2, 2, "((0+(a*w))+(b*y))", "((0+(a*x))+(b*z))", "((0+(c*w))+(d*y))", "((0+(c*x))+(d*z))"))(m.Mul(b))
	told(t, "Mul of one", of[step](1, 1, "(0+(a*w))"))(of[step](1, 1, "a").Mul(of[step](1, 1, "w")))
	told(t, "Add", of[step](2, 2, "(a+w)", "(b+x)", "(c+y)", "(d+z)"))(m.Add(b))
	told(t, "Sub", of[step](2, 2, "(a-w)", "(b-x)", "(c-y)", "(d-z)"))(m.Sub(b))
	told(t, "Beside", of[step](2, 4, "a", "b", "w", "x", "c", "d", "y", "z"))(m.Beside(b))
	told(t, "Mirror", of[step](2, 2, "a", "c", "c", "d"))(m.Mirror())
	same(t, "Turn", m.Turn(), of[step](2, 2, "a", "c", "b", "d"))
	v, is := m.Apply([]step{"p", "q"})
	like(t, "Apply", v, []step{"((0+(a*p))+(b*q))", "((0+(c*p))+(d*q))"})
	if !is {
		t.Error("Apply is false")
	}
}

// product is what a, of these sides, times b is, of whole numbers.
func product(rows, mid, cols int, a, b []int) []int {
	var l []int
	for i := range rows {
		for k := range cols {
			sum := 0
			for j := range mid {
				sum += a[i*mid+j] * b[j*cols+k]
			}
			l = append(l, sum)
		}
	}
	return l
}

// asWhole holds all that comes of two matrices of whole numbers against what whole numbers tell.
func asWhole[T number[T]](t *testing.T, rows, mid, cols int) {
	x, y, z := mixed(uint64(rows), rows*mid, 100), mixed(uint64(cols)+40, mid*cols, 100), mixed(uint64(mid)+80, rows*mid, 100)
	a, b, c := wholes[T](rows, mid, x...), wholes[T](mid, cols, y...), wholes[T](rows, mid, z...)
	told(t, "Mul", wholes[T](rows, cols, product(rows, mid, cols, x, y)...))(a.Mul(b))
	v, is := a.Apply(b.Col(cols - 1))
	like(t, "Apply", v, wholes[T](rows, cols, product(rows, mid, cols, x, y)...).Col(cols-1))
	sums, less := []int{}, []int{}
	for i := range x {
		sums, less = append(sums, x[i]+z[i]), append(less, x[i]-z[i])
	}
	told(t, "Add", wholes[T](rows, mid, sums...))(a.Add(c))
	told(t, "Sub", wholes[T](rows, mid, less...))(a.Sub(c))
	if !is {
		t.Error("Apply is false")
	}
}

// P6.2: whole numbers of both kinds, of sides from 1 to 16.
func TestWholeNumbers(t *testing.T) {
	for rows := 1; rows <= 16; rows += 3 {
		for mid := 1; mid <= 16; mid += 5 {
			for cols := 1; cols <= 16; cols += 3 {
				asWhole[fraction](t, rows, mid, cols)
				asWhole[num](t, rows, mid, cols)
			}
		}
	}
}

// P6.2: two that do not go together, of all sides up to 4, and rows of numbers that are too short or too long.
func TestDoNotGoTogether(t *testing.T) {
	for n := range 256 {
		rows, cols, bRows, bCols := n%4+1, n/4%4+1, n/16%4+1, n/64+1
		a, b := wholes[fraction](rows, cols, counted(rows*cols)...), wholes[fraction](bRows, bCols, counted(bRows*bCols)...)
		if m, is := a.Mul(b); is != (cols == bRows) || is && (m.Rows != rows || m.Cols != bCols) || m.Right() != is {
			t.Error("Mul of", rows, cols, bRows, bCols, "is", m, is)
		}
		like := rows == bRows && cols == bCols
		if m, is := a.Add(b); is != like || m.Right() != is {
			t.Error("Add of", rows, cols, bRows, bCols, "is", m, is)
		}
		if m, is := a.Sub(b); is != like || m.Right() != is {
			t.Error("Sub of", rows, cols, bRows, bCols, "is", m, is)
		}
		if m, is := a.Beside(b); is != (rows == bRows) || m.Right() != is {
			t.Error("Beside of", rows, cols, bRows, bCols, "is", m, is)
		}
		if cols != bRows {
			none[fraction](t, "Mul")(a.Mul(b))
		}
		if !like {
			none[fraction](t, "Add")(a.Add(b))
			none[fraction](t, "Sub")(a.Sub(b))
		}
		if rows != bRows {
			none[fraction](t, "Beside")(a.Beside(b))
		}
	}
	m := wholes[fraction](2, 3, counted(6)...)
	for count := range 20 {
		v, is := m.Apply(vec.Whole[fraction](counted(count)))
		if is != (count == 3) || is != (len(v) == 2) || !is && len(v) != 0 {
			t.Error("Apply of", count, "numbers is", v, is)
		}
	}
	if v, is := m.Apply(nil); is || len(v) != 0 {
		t.Error("Apply of nothing is", v, is)
	}
}

// mayNotBe has nothing to tell, whatever it is asked, and beside whichever other one.
func mayNotBe[T number[T]](t *testing.T, m mat.Mat[T]) {
	t.Helper()
	var zero T
	if m.Right() {
		t.Error("Right of", m)
	}
	for i := -1; i <= 4; i++ {
		for k := -1; k <= 4; k++ {
			if got := m.At(i, k); got != zero {
				t.Error("At of", m, "is", got)
			}
		}
		like(t, "Row", m.Row(i), nil)
		like(t, "Col", m.Col(i), nil)
	}
	if l, asked, _ := gone(m.All(), 99); l != nil || asked != 0 {
		t.Error("All of", m, "is", l, asked)
	}
	none[T](t, "Turn")(m.Turn(), false)
	none[T](t, "Turn, turned")(m.Turn().Turn(), false)
	none[T](t, "Mirror")(m.Mirror())
	for n := range 5 {
		if v, is := m.Apply(vec.Whole[T](counted(n))); is || len(v) != 0 {
			t.Error("Apply of", m, "is", v, is)
		}
	}
	others := []mat.Mat[T]{m, {}}
	for n := range 9 {
		others = append(others, wholes[T](n/3+1, n%3+1, counted((n/3+1)*(n%3+1))...))
	}
	for _, b := range others {
		for _, l := range [][2]mat.Mat[T]{{m, b}, {b, m}} {
			none[T](t, "Mul")(l[0].Mul(l[1]))
			none[T](t, "Add")(l[0].Add(l[1]))
			none[T](t, "Sub")(l[0].Sub(l[1]))
			none[T](t, "Beside")(l[0].Beside(l[1]))
		}
	}
}

func allThatMayNotBe[T number[T]](t *testing.T) {
	mayNotBe(t, mat.Mat[T]{})
	for _, s := range [][3]int{{2, 2, 3}, {2, 2, 5}, {2, 2, 0}, {1, 1, 0}, {1, 1, 2}, {0, 0, 1}, {0, 1, 0}, {1, 0, 0}, {0, 3, 3}, {3, 0, 3}, {-1, -1, 1}, {-2, -2, 4}, {-1, 2, 2}, {2, 3, 4}, {17, 1, 17}, {1, 17, 17}, {17, 17, 289}, {math.MaxInt, math.MaxInt, 1}, {math.MinInt, math.MinInt, 0}, {1 << 32, 1 << 32, 0}, {math.MinInt, 2, 0}, {3, math.MaxInt, 9}} {
		mayNotBe(t, wholes[T](s[0], s[1], counted(s[2])...))
		// As many numbers as there should be, if the room behind the end were counted.
		l := vec.Whole[T](counted(400))
		mayNotBe(t, mat.Mat[T]{Rows: s[0], Cols: s[1], L: l[:s[2]]})
	}
}

// P6.1, P6.2: the zero matrix, and those whose Rows, Cols and L do not go together.
func TestMayNotBe(t *testing.T) {
	allThatMayNotBe[fraction](t)
	allThatMayNotBe[num](t)
}

// oneWrong puts each wrong number at each place: it is told where it comes in, and nowhere else.
func oneWrong[T number[T]](t *testing.T, bad T, wrongs ...T) {
	good := wholes[T](3, 3, counted(9)...)
	v := vec.Whole[T]([]int{1, 2, 3})
	sums, _ := good.Add(good)
	less, _ := good.Sub(good)
	times, _ := good.Mul(good)
	applied, _ := good.Apply(v)
	for p := range 9 {
		i, k := p/3, p%3
		for _, wrong := range wrongs {
			m := of(3, 3, with(good.L, p, wrong)...)
			told(t, "New", m)(mat.New(3, 3, m.L))
			if m.At(i, k) != wrong {
				t.Error("At is", m.At(i, k))
			}
			like(t, "Row", m.Row(i), with(good.Row(i), k, wrong))
			like(t, "Col", m.Col(k), with(good.Col(k), i, wrong))
			same(t, "Turn", m.Turn(), of(3, 3, with(good.Turn().L, k*3+i, wrong)...))
			told(t, "Add", of(3, 3, with(sums.L, p, bad)...))(m.Add(good))
			told(t, "Add", of(3, 3, with(sums.L, p, bad)...))(good.Add(m))
			told(t, "Sub", of(3, 3, with(less.L, p, bad)...))(m.Sub(good))
			told(t, "Sub", of(3, 3, with(less.L, p, bad)...))(good.Sub(m))
			ofRow, ofCol := slices.Clone(times.L), slices.Clone(times.L)
			for j := range 3 {
				ofRow[i*3+j], ofCol[j*3+k] = bad, bad
			}
			told(t, "Mul", of(3, 3, ofRow...))(m.Mul(good))
			told(t, "Mul", of(3, 3, ofCol...))(good.Mul(m))
			got, is := m.Apply(v)
			like(t, "Apply", got, with(applied, i, bad))
			all, isToo := good.Apply(with(v, k, wrong))
			like(t, "Apply", all, slices.Repeat([]T{bad}, 3))
			if !is || !isToo {
				t.Error("Apply is", is, isToo)
			}
			wrongMoved(t, good, m, i, k, wrong)
		}
	}
}

// wrongMoved tells of Beside and Mirror where the wrong number of row i, column k goes.
func wrongMoved[T number[T]](t *testing.T, good, m mat.Mat[T], i, k int, wrong T) {
	both, _ := good.Beside(good)
	told(t, "Beside", of(3, 6, with(both.L, i*6+k, wrong)...))(m.Beside(good))
	told(t, "Beside", of(3, 6, with(both.L, i*6+3+k, wrong)...))(good.Beside(m))
	want, _ := good.Mirror()
	if i >= k {
		want.L[i*3+k], want.L[k*3+i] = wrong, wrong
	}
	told(t, "Mirror", want)(m.Mirror())
}

// P6.1, P6.2: matrices in which one number is Bad, or may not be.
func TestWrong(t *testing.T) {
	oneWrong(t, badFraction, badFraction, fraction{N: 1, D: 2, Bad: true}, fraction{}, fraction{N: 2, D: 4}, fraction{N: 1, D: -2}, fraction{N: top + 1, D: 1}, fraction{N: math.MinInt, D: math.MinInt})
	oneWrong(t, badNum, badNum, num{V: one, Low: one, High: one, Bad: true}, num{V: one, Low: 2 * one, High: one}, num{V: 3, Low: 1, High: 2}, num{V: api.Max + 1, Low: api.Max + 1, High: api.Max + 1}, num{V: 0, Low: math.MinInt, High: math.MaxInt})
}

// P6.2: the order of what is added in a product is seen where a sum on its way may not be.
func TestProductOnItsWay(t *testing.T) {
	ones := wholes[fraction](3, 1, 1, 1, 1)
	told(t, "Mul", of(2, 1, badFraction, fraction{N: top, D: 1}))(wholes[fraction](2, 3, top, 1, -1, top, -1, 1).Mul(ones))
	points := of(2, 3, env.Point(api.Max), env.Point(1), env.Point(-1), env.Point(api.Max), env.Point(-1), env.Point(1))
	v, is := points.Apply(vec.Whole[num]([]int{1, 1, 1}))
	like(t, "Apply", v, []num{badNum, env.Point(api.Max)})
	if !is {
		t.Error("Apply is false")
	}
}

// ratios are fractions of small numbers, always the same ones.
func ratios(seed uint64, rows, cols int) mat.Mat[fraction] {
	n, d := mixed(seed, rows*cols, 6), mixed(seed+7, rows*cols, 1)
	var l []fraction
	for i := range n {
		l = append(l, frac.New(n[i], d[i]+2))
	}
	return of(rows, cols, l...)
}

// P6.3: products of three hang on no brackets; a product turned is both turned, the other way round; the unit changes nothing.
func TestBrackets(t *testing.T) {
	for n := range 600 {
		p, q, r, s := n%5+1, n/5%4+1, n/20%5+1, n/100%6+1
		a, b, c := ratios(uint64(n), p, q), ratios(uint64(n)+1000, q, r), ratios(uint64(n)+2000, r, s)
		ab, _ := a.Mul(b)
		bc, _ := b.Mul(c)
		left, _ := ab.Mul(c)
		told(t, "a product of three", left)(a.Mul(bc))
		if left.Rows != p || left.Cols != s || slices.Contains(left.L, badFraction) {
			t.Fatal("a product of three is", left)
		}
		told(t, "a product, turned", ab.Turn())(b.Turn().Mul(a.Turn()))
		first, _ := mat.Unit[fraction](p)
		last, _ := mat.Unit[fraction](q)
		told(t, "the unit times it", a)(first.Mul(a))
		told(t, "it times the unit", a)(a.Mul(last))
	}
	a, b, c := wholes[fraction](16, 16, mixed(1, 256, 9)...), wholes[fraction](16, 16, mixed(2, 256, 9)...), wholes[fraction](16, 16, mixed(3, 256, 9)...)
	ab, _ := a.Mul(b)
	bc, _ := b.Mul(c)
	left, is := ab.Mul(c)
	if !is {
		t.Error("no product of three of 16")
	}
	told(t, "a product of three of 16", left)(a.Mul(bc))
}

// P6.3: what is turned twice is itself, of all sides, whatever the numbers are.
func TestTurnedTwice(t *testing.T) {
	for rows := 1; rows <= 16; rows++ {
		for cols := 1; cols <= 16; cols++ {
			a := ratios(uint64(rows*cols), rows, cols)
			a.L[rows*cols/2] = badFraction
			same(t, "Turn twice", a.Turn().Turn(), a)
			b := wholes[num](rows, cols, mixed(uint64(rows), rows*cols, 1000)...)
			b.L[0] = num{V: 9, Low: 10, High: 8}
			same(t, "Turn twice", b.Turn().Turn(), b)
		}
	}
}

// P6.2, P6.3: of enclosed quotients, which have no exact units, products of three with either brackets enclose the exact one.
func TestEnclosesExact(t *testing.T) {
	for n := 1; n <= 16; n++ {
		var exact [3][]*big.Rat
		var m [3]mat.Mat[num]
		for j := range m {
			m[j] = of[num](n, n)
			for i, x := range mixed(uint64(n+20*j), n*n, 30) {
				by := (i+j)%4 + 3
				m[j].L = append(m[j].L, env.Point(x*one).Div(env.Point(by*one)))
				exact[j] = append(exact[j], big.NewRat(int64(x), int64(by)))
			}
		}
		ab, _ := m[0].Mul(m[1])
		bc, _ := m[1].Mul(m[2])
		left, _ := ab.Mul(m[2])
		right, _ := m[0].Mul(bc)
		want := exactProduct(n, exactProduct(n, exact[0], exact[1]), exact[2])
		for i, x := range want {
			top, by := int(x.Num().Int64()), int(x.Denom().Int64())
			if !env.Encloses(left.At(i/n, i%n), top, by) || !env.Encloses(right.At(i/n, i%n), top, by) || !env.Meet(left.L[i], right.L[i]) {
				t.Error("a product of three has", left.L[i], right.L[i], "and exactly", x)
			}
		}
	}
}

func exactProduct(n int, a, b []*big.Rat) []*big.Rat {
	var l []*big.Rat
	for p := range n * n {
		sum := new(big.Rat)
		for j := range n {
			sum.Add(sum, new(big.Rat).Mul(a[p/n*n+j], b[j*n+p%n]))
		}
		l = append(l, sum)
	}
	return l
}

// P6.1, P6.2: what is handed in does not change, the room behind its end included, and no answer shares memory with it,
// or with another answer.
func TestMemory(t *testing.T) {
	whole, l, k := []int{1, 2, 3, 4, 5, 6}, fractions(1, 2, 2, 3, 3, 4, 4, 5, 9, 1, 8, 1), fractions(4, 1, 5, 1, 6, 1, 7, 1, 8, 1, 3, 1)
	wholeWas, lWas, kWas := slices.Clone(whole), slices.Clone(l), slices.Clone(k)
	a, b := of(2, 2, l[:4]...), of(2, 2, k[:4]...)
	list := func(m mat.Mat[fraction], _ bool) []fraction { return m.L }
	calls := []func() []fraction{
		func() []fraction { return list(mat.New(2, 2, l[:4])) },
		func() []fraction { return list(mat.Whole[fraction](2, 2, whole[:4])) },
		func() []fraction { return list(mat.Unit[fraction](2)) },
		func() []fraction { return a.Row(0) },
		func() []fraction { return a.Row(1) },
		func() []fraction { return a.Col(0) },
		func() []fraction { return of(4, 1, l[:4]...).Col(0) },
		func() []fraction { return of(1, 4, l[:4]...).Row(0) },
		func() []fraction { return a.Turn().L },
		func() []fraction { return of(1, 1, l[:1]...).Turn().L },
		func() []fraction { return of(1, 4, l[:4]...).Turn().L },
		func() []fraction { return list(a.Mul(b)) },
		func() []fraction { return list(a.Add(b)) },
		func() []fraction { return list(a.Sub(a)) },
		func() []fraction { return list(a.Beside(b)) },
		func() []fraction { return list(a.Beside(a)) },
		func() []fraction { v, _ := a.Apply(k[:2]); return v },
		func() []fraction { return list(a.Mirror()) },
		func() []fraction { return list(of(1, 1, l[:1]...).Mirror()) },
	}
	var was, again [][]fraction
	for _, call := range calls {
		first, second := call(), call()
		was = append(was, slices.Clone(first))
		again = append(again, second)
		spoil(first)
	}
	for i, l := range again {
		if len(l) == 0 {
			t.Error("no answer of call", i)
		}
		like(t, "an answer beside another one that has changed", l, was[i])
	}
	like(t, "what was handed in", whole, wholeWas)
	like(t, "what was handed in", l, lWas)
	like(t, "what was handed in", k, kWas)
}

// spoil writes over a row, and over the room behind its end.
func spoil(l []fraction) {
	l = l[:cap(l)]
	for i := range l {
		l[i] = fraction{N: 77, D: 1}
	}
}
