package house_test

import (
	"math"
	"slices"
	"strconv"
	"strings"
	"testing"

	"couplet/api"
	"couplet/env"
	"couplet/frac"
	"couplet/house"
	"couplet/mat"
	"couplet/tri"
	"couplet/vec"
)

const (
	one = api.Unit
	top = api.MaxFrac
)

type (
	fraction = frac.Frac
	num      = env.Num
)

var (
	badFraction = fraction{Bad: true}
	badNum      = num{Bad: true}
)

// number is a kind of numbers that can be held against each other.
type number[T any] interface {
	comparable
	vec.Field[T]
}

// step is a kind of numbers that says what was done, of what, and in which order; a capital letter is below 0, as is a Neg,
// and o is 0.
type step string

// done are all steps but whole numbers, in the order in which they were asked for.
var done []step

func (a step) Add(b step) step { return reckon("(" + a + "+" + b + ")") }
func (a step) Sub(b step) step { return reckon("(" + a + "-" + b + ")") }
func (a step) Mul(b step) step { return reckon("(" + a + "*" + b + ")") }
func (a step) Div(b step) step { return reckon("(" + a + "/" + b + ")") }
func (a step) Root() step      { return reckon("root" + a) }
func (a step) Neg() step       { return reckon("neg" + a) }
func (a step) Of(n int) step   { return step(strconv.Itoa(n)) }

func (a step) Sign() int {
	switch {
	case a == "o" || a == "0":
		return 0
	case strings.HasPrefix(string(a), "neg") || "A" <= a && a <= "Z":
		return -1
	}
	return 1
}

func reckon(a step) step {
	done = append(done, a)
	return a
}

// found are those of the steps done that are among these, in the order in which they were done.
func found(among []step) []step {
	return slices.DeleteFunc(slices.Clone(done), func(s step) bool { return !slices.Contains(among, s) })
}

// fractions are n by d of each two numbers.
func fractions(parts ...int) []fraction {
	var l []fraction
	for p := range slices.Chunk(parts, 2) {
		l = append(l, frac.New(p[0], p[1]))
	}
	return l
}

// mixed are whole numbers of at most so much either way, always the same ones.
func mixed(seed, count, most int) []int {
	x := uint64(seed)*2 + 0x9e3779b97f4a7c15
	var l []int
	for range count {
		x ^= x << 13
		x ^= x >> 7
		x ^= x << 17
		l = append(l, int(x>>16)%(2*most+1)-most)
	}
	return l
}

// counted are the whole numbers from 1 on.
func counted(count int) []int {
	var l []int
	for i := range count {
		l = append(l, i+1)
	}
	return l
}

// of is a matrix of so many rows.
func of[T vec.Field[T]](rows int, l ...T) mat.Mat[T] {
	return mat.Mat[T]{Rows: rows, Cols: len(l) / rows, L: l}
}

func wholes[T vec.Field[T]](rows int, l ...int) mat.Mat[T] {
	return of(rows, vec.Whole[T](l)...)
}

// lower are whole numbers of a triangle: 0 above the diagonal, and on it 1, 2 and 4 by turns, by which quotients are exact
// of units, too.
func lower(seed, n, most int) []int {
	l := mixed(seed, n*n, most)
	for i := range n {
		l[i*n+i] = 1 << (i % 3)
		clear(l[i*n+i+1 : (i+1)*n])
	}
	return l
}

// placed are the columns of a triangle, put in other places among so many, from one on, and every second one turned below
// 0; what is in the other places is 0, and what it is times itself, turned, stays.
func placed(l []int, n, cols, from int) []int {
	by := 7
	if cols%by == 0 {
		by = 1
	}
	a := make([]int, n*cols)
	for i := range n {
		for k := range n {
			a[i*cols+(from+k*by)%cols] = l[i*n+k] * (1 - (from+k)%2*2)
		}
	}
	return a
}

// with is a row, but for one number of it.
func with[T any](l []T, i int, x T) []T {
	l = slices.Clone(l)
	l[i] = x
	return l
}

// like holds a row against what it should be; none is as good as an empty one.
func like[T comparable](t *testing.T, name string, got, want []T) {
	t.Helper()
	if !slices.Equal(got, want) {
		t.Error(name, "is", got, "not", want)
	}
}

// told holds a matrix that there must be against what it should be.
func told[T number[T]](t *testing.T, name string, want mat.Mat[T]) func(mat.Mat[T], bool) {
	return func(got mat.Mat[T], is bool) {
		t.Helper()
		if !is || got.Rows != want.Rows || got.Cols != want.Cols || !slices.Equal(got.L, want.L) {
			t.Error(name, "is", got, is, "not", want)
		}
	}
}

// none asks for the zero matrix, and false.
func none[T number[T]](t *testing.T, name string) func(mat.Mat[T], bool) {
	return func(got mat.Mat[T], is bool) {
		t.Helper()
		if is || got.Rows != 0 || got.Cols != 0 || len(got.L) != 0 {
			t.Error(name, "is", got, is)
		}
	}
}

// sides goes through all sides of what can be folded.
func sides(yield func(n, m int) bool) {
	for n := 1; n <= 16; n++ {
		for m := n; m <= 16; m++ {
			if !yield(n, m) {
				return
			}
		}
	}
}

// nought tells whether x is what Of(0) is.
func nought[T number[T]](x T) bool { return x == x.Of(0) }

// dot is what the products of both leave, reckoned one by one.
func dot[T vec.Field[T]](a, b []T) T {
	sum := a[0].Of(0)
	for i := range a {
		sum = sum.Add(a[i].Mul(b[i]))
	}
	return sum
}

// folded is what it is to fold, as the words say it, number by number: v stands in the place of its x.
func folded[T vec.Field[T]](a mat.Mat[T]) []T {
	n, m, l := a.Rows, a.Cols, slices.Clone(a.L)
	ends := make([]T, n)
	for k := range n {
		v := l[k*m+k : (k+1)*m]
		ends[k] = dot(v, v).Root()
		if v[0].Sign() >= 0 {
			ends[k] = ends[k].Neg()
		}
		v[0] = v[0].Sub(ends[k])
		q := dot(v, v)
		for i := k + 1; i < n; i++ {
			w := l[i*m+k : (i+1)*m]
			by := dot(w, v)
			by = by.Add(by).Div(q)
			for j := range w {
				w[j] = w[j].Sub(v[j].Mul(by))
			}
		}
	}
	var first []T
	for i := range n {
		l[i*m+i] = ends[i]
		first = append(first, l[i*m:i*m+n]...)
	}
	return signed(n, first)
}

// signed are n by n numbers, 0 above the diagonal, where that is below 0 their Neg from there on.
func signed[T vec.Field[T]](n int, l []T) []T {
	s := slices.Clone(l)
	for k := range n {
		for i := range n {
			if i < k {
				s[i*n+k] = s[i*n+k].Of(0)
			} else if l[k*n+k].Sign() < 0 {
				s[i*n+k] = s[i*n+k].Neg()
			}
		}
	}
	return s
}

// P8.1: the example, and others by hand: a first number that is above 0, below 0, and 0.
func TestByHand(t *testing.T) {
	for _, x := range [][]int{{3, 4}, {-3, 4}, {3, -4}, {-3, -4}, {0, 5}, {0, -5}, {5, 0}, {-5, 0}, {1, -2, 4, 2}, {0, 0, 3, -4}} {
		told(t, "Fold", wholes[fraction](1, 5))(house.Fold(wholes[fraction](1, x...)))
		told(t, "Fold", wholes[num](1, 5))(house.Fold(wholes[num](1, x...)))
	}
	told(t, "Fold", wholes[fraction](2, 5, 0, 10, 5))(house.Fold(wholes[fraction](2, 0, 3, 4, 5, 6, 8)))
	told(t, "Fold", wholes[fraction](2, 5, 0, 11, 2))(house.Fold(wholes[fraction](2, 3, 4, 5, 10)))
	told(t, "Fold", wholes[fraction](2, 5, 0, -5, 10))(house.Fold(wholes[fraction](2, -3, -4, -5, 10)))
	told(t, "Fold", wholes[fraction](2, 5, 0, 0, 5))(house.Fold(wholes[fraction](2, 0, -5, 5, 0)))
	told(t, "Fold", of(2, fractions(5, 6, 0, 1, 5, 1, 5, 2)...))(house.Fold(of(2, fractions(1, 2, 2, 3, 1, 1, 11, 2)...)))
	told(t, "Fold", wholes[fraction](3, 3, 0, 0, 6, 3, 0, -3, 6, 3))(house.Fold(wholes[fraction](3, 1, 2, 2, 0, 3, 6, -3, -6, 3)))
	root := num{V: 23726566, Low: 23726566, High: 23726567}
	told(t, "Fold", of(1, root))(house.Fold(wholes[num](1, 1, 1)))
	told(t, "Fold", of(1, root))(house.Fold(wholes[num](1, -1, 1)))
}

// oneRow folds 1 row of 1 to 16 columns, with its first number above 0, below 0, and 0, and its length in each place.
func oneRow[T number[T]](t *testing.T) {
	for m := 1; m <= 16; m++ {
		for place := range m {
			for _, x := range []int{7, -7, 0} {
				l := with(make([]int, m), place, x)
				told(t, "Fold of a row", wholes[T](1, max(x, -x)))(house.Fold(wholes[T](1, l...)))
			}
		}
	}
	for _, first := range []int{1, -1} {
		ones := slices.Repeat([]int{1, -1}, 8)
		told(t, "Fold of 16 ones", wholes[T](1, 4))(house.Fold(wholes[T](1, with(ones, 0, first)...)))
	}
}

func TestOneRow(t *testing.T) {
	oneRow[fraction](t)
	oneRow[num](t)
	told(t, "Fold of one number", of(1, frac.New(2, 3)))(house.Fold(of(1, frac.New(-2, 3))))
	told(t, "Fold of one number", of(1, env.Point(one/4)))(house.Fold(of(1, env.Point(-one/4))))
}

// P8.1: what is done, of what, and in which order: two rows, as texts, with a first number above 0, below 0, and 0.
func TestSteps(t *testing.T) {
	for _, c := range []struct{ a, sign, turn step }{{"a", "neg", "neg"}, {"A", "", ""}, {"o", "neg", "neg"}} {
		s := "root((0+(" + c.a + "*" + c.a + "))+(b*b))"
		p := c.sign + s
		v := "(" + c.a + "-" + p + ")"
		q := "((0+(" + v + "*" + v + "))+(b*b))"
		both := "((0+(c*" + v + "))+(d*b))"
		by := "((" + both + "+" + both + ")/" + q + ")"
		left, right := "(c-("+v+"*"+by+"))", "(d-(b*"+by+"))"
		root := "root(0+(" + right + "*" + right + "))"
		less := "(" + right + "-neg" + root + ")"
		rest := "(0+(" + less + "*" + less + "))"
		order := []step{s, p, v, q, both, by, left, right, root, "neg" + root, less, rest, c.turn + left, "negneg" + root}
		// Where p is s, and what is left is not turned, one step stands for both.
		order = slices.Compact(order)
		if c.turn == "" {
			order = slices.DeleteFunc(order, func(s step) bool { return s == left })
		}
		done = nil
		told(t, "Fold", of(2, c.turn+p, "0", c.turn+left, "negneg"+root))(house.Fold(of(2, c.a, "b", "c", "d")))
		like(t, "the order of Fold", found(order), order)
	}
	told(t, "Fold of one", of[step](1, "negnegroot(0+(a*a))"))(house.Fold(of[step](1, "a")))
	told(t, "Fold of one", of[step](1, "root(0+(A*A))"))(house.Fold(of[step](1, "A")))
	told(t, "Signs", of[step](2, "negA", "b", "negc", "d"))(house.Signs(of[step](2, "A", "b", "c", "d")))
	told(t, "Signs", of[step](2, "a", "B", "C", "negD"))(house.Signs(of[step](2, "a", "B", "C", "D")))
}

// P8.1: three rows: of each column the Root, p, v, and then t of each row below, one by one, each with its numbers.
func TestOrder(t *testing.T) {
	for _, a := range []mat.Mat[step]{of[step](3, "a", "b", "C", "D", "e", "f", "g", "H", "i"), of[step](3, "A", "b", "c", "d", "e", "f", "g", "h", "i", "j", "k", "l")} {
		done = nil
		want := folded(a)
		order := ends(done)
		done = nil
		told(t, "Fold", of(3, want...))(house.Fold(a))
		like(t, "the order of Fold", ends(done), order)
		if len(order) < 20 {
			t.Error("so few steps:", len(order))
		}
	}
}

// ends are steps but for products and sums: what a Dot does first of these is said in its own layer.
func ends(steps []step) []step {
	return slices.DeleteFunc(slices.Clone(steps), func(s step) bool { return strings.ContainsRune("+*", outer(s)) })
}

// outer is the sign of what was done last in a step; a space, of a Neg and a Root.
func outer(s step) rune {
	deep := 0
	for _, c := range s {
		switch {
		case deep == 0 && c != '(':
			return ' '
		case c == '(':
			deep++
		case c == ')':
			deep--
		case deep == 1 && strings.ContainsRune("+-*/", c):
			return c
		}
	}
	return ' '
}

// P8.1: whatever the numbers are, of all sides, points and with bounds, what is told is what was reckoned.
func TestReckoned(t *testing.T) {
	for n, m := range sides {
		for seed := range 3 {
			l := mixed(n*1000+m*20+seed, n*m, []int{1, 4, 60}[seed])
			a, f := wholes[num](n, l...), wholes[fraction](n, l...)
			told(t, "Fold", of(n, folded(a)...))(house.Fold(a))
			told(t, "Fold", of(n, folded(f)...))(house.Fold(f))
			for i := range a.L {
				a.L[i].Low, a.L[i].High = a.L[i].Low-i*50, a.L[i].High+seed*300
			}
			told(t, "Fold", of(n, folded(a)...))(house.Fold(a))
		}
	}
}

// P8.1, P8.2: a triangle whose columns were put in other places folds back to itself; as long as numbers are exact, its
// square is what was folded times that, turned.
func foldsBack[T number[T]](t *testing.T, n, m, from int) {
	t.Helper()
	l := lower(n*400+m*20+from, n, 6)
	s, a := wholes[T](n, l...), wholes[T](n, placed(l, n, m, from)...)
	product, _ := a.Mul(a.Turn())
	told(t, "Fold", s)(house.Fold(a))
	told(t, "Square", product)(tri.Square(s))
	for i := range n {
		// A row's Neg turns the sign of its number on the diagonal, which is turned back, with its column.
		turned := slices.Clone(a.L)
		for k := i * m; k < (i+1)*m; k++ {
			turned[k] = turned[k].Neg()
		}
		b := of(n, turned...)
		u, is := house.Fold(b)
		product, _ = b.Mul(b.Turn())
		told(t, "Square of what is folded", product)(tri.Square(u))
		like(t, "the diagonal", tri.Diagonal(u), tri.Diagonal(s))
		if !is || !tri.Is(u, nought[T]) {
			t.Error("Fold is no triangle:", u)
		}
	}
}

func TestFoldsBack(t *testing.T) {
	for n, m := range sides {
		foldsBack[fraction](t, n, m, n%m)
		foldsBack[num](t, n, m, n%m)
		told(t, "Fold of a triangle", wholes[num](n, lower(n, n, 9)...))(house.Fold(wholes[num](n, lower(n, n, 9)...)))
	}
	for m := 3; m <= 5; m++ {
		for from := range m {
			foldsBack[fraction](t, 3, m, from)
			foldsBack[num](t, 3, m, from)
		}
	}
}

// spun is a matrix, two columns of which are spun by 3, 4 and 5, or by 5, 12 and 13: it times itself, turned, stays.
func spun(a mat.Mat[fraction], i, k int) mat.Mat[fraction] {
	c, s := frac.New(3, 5), frac.New(-4, 5)
	if (i+k)%2 == 0 {
		c, s = frac.New(-5, 13), frac.New(12, 13)
	}
	l := slices.Clone(a.L)
	for row := range a.Rows {
		x, y := a.At(row, i), a.At(row, k)
		l[row*a.Cols+i], l[row*a.Cols+k] = x.Mul(c).Add(y.Mul(s)), y.Mul(c).Sub(x.Mul(s))
	}
	return of(a.Rows, l...)
}

// P8.2: in fractions, the triangle is the one that was spun, so its square is a times a turned.
func TestSquareFractions(t *testing.T) {
	for n := 1; n <= 3; n++ {
		for m := max(n, 2); m <= 5; m++ {
			for seed := range 30 {
				l := lower(seed+n*100, n, 4)
				a := spun(wholes[fraction](n, placed(l, n, m, seed%m)...), seed%(m-1), m-1)
				product, is := a.Mul(a.Turn())
				s, isToo := house.Fold(a)
				told(t, "Fold", wholes[fraction](n, l...))(s, isToo)
				told(t, "Square", product)(tri.Square(s))
				if !is || slices.Contains(product.L, badFraction) {
					t.Error("nothing is held against", product)
				}
			}
		}
	}
}

// encloses asks that each of m encloses the exact number there, n by d.
func encloses(t *testing.T, name string, m mat.Mat[num], exact []int, d int) {
	t.Helper()
	if len(m.L) != len(exact) {
		t.Fatal(name, "has", len(m.L), "numbers, not", len(exact))
	}
	for i, x := range exact {
		if !env.Encloses(m.L[i], x, d) {
			t.Error(name, "has", m.L[i], "and exactly", x, "by", d)
		}
	}
}

// squared are whole numbers of so many rows, times themselves, turned.
func squared(n int, l []int) []int {
	m := len(l) / n
	var p []int
	for i := range n {
		for k := range n {
			sum := 0
			for j := range m {
				sum += l[i*m+j] * l[k*m+j]
			}
			p = append(p, sum)
		}
	}
	return p
}

// squareEncloses asks that the triangle's square encloses what exact numbers, n by d, are, times themselves, turned; false,
// if one of its numbers is Bad.
func squareEncloses(t *testing.T, a mat.Mat[num], exact []int, d int) bool {
	t.Helper()
	s, is := house.Fold(a)
	if !is || !tri.Is(s, nought[num]) {
		t.Error("Fold is no triangle:", s, is)
	}
	if slices.Contains(s.L, badNum) {
		return false
	}
	for _, x := range tri.Diagonal(s) {
		if x.Sign() < 0 {
			t.Error("the diagonal has", x)
		}
	}
	p, _ := tri.Square(s)
	encloses(t, "Square", p, squared(a.Rows, exact), d*d)
	return true
}

// P8.2: of whole numbers, and of quotients that have no exact units, the triangle's square encloses the exact one.
func TestSquareEnclosed(t *testing.T) {
	for n, m := range sides {
		fine := 0
		for seed := range 4 {
			l := mixed(n*333+m*20+seed, n*m, 20)
			for i := range n { // so great numbers keep rows apart from each other
				l[i*m+(i+seed)%m] += 60 * (1 - seed%2*2)
			}
			for d := 1; d <= 7; d += 3 {
				a := wholes[num](n, l...)
				for i := range a.L {
					a.L[i] = a.L[i].Div(env.Point(d * one))
				}
				if squareEncloses(t, a, l, d) {
					fine++
				}
			}
		}
		if fine < 10 {
			t.Error("of", n, "by", m, "so few have no Bad number:", fine)
		}
	}
}

// P8.2: the triangle itself is enclosed, and not too widely.
func TestTriangleEnclosed(t *testing.T) {
	for n, m := range sides {
		for from := range min(m, 4) {
			l := lower(from+n*10, n, 2)
			for i := range n {
				l[i*n+i] = 7 + i%4
			}
			s, _ := house.Fold(wholes[num](n, placed(l, n, m, from)...))
			encloses(t, "Fold", s, l, 1)
			for _, x := range s.L {
				if n <= 4 && x.High-x.Low > 1<<9 {
					t.Error("of", n, "by", m, "Fold has so wide a number as", x)
				}
			}
		}
	}
}

// P8.2: of numbers with bounds, whatever they enclose, at either end of each too, is enclosed.
func TestSquareEnclosedAtEnds(t *testing.T) {
	const parts = 256 // of one, which are whole units
	for n, m := range sides {
		if n > 8 {
			continue
		}
		low := mixed(n*50+m, n*m, 9*parts)
		high := slices.Clone(low)
		a := wholes[num](n, low...)
		for i := range low {
			v, wide := low[i], i%4
			if i%(m+1) == 0 { // so great numbers keep rows apart from each other
				v, wide = v+1000*parts, parts
			}
			low[i], high[i] = v-wide, v+i%3
			a.L[i] = num{V: v * (one / parts), Low: low[i] * (one / parts), High: high[i] * (one / parts)}
		}
		for turn := range 5 {
			ends := slices.Clone(low)
			for i := range ends {
				if turn == 1 || turn > 1 && i%turn == 0 {
					ends[i] = high[i]
				}
			}
			if !squareEncloses(t, a, ends, parts) {
				t.Error("Fold has a Bad number, of", a)
			}
		}
	}
}

// rowOfNoughts puts it first, last, and in the middle: what is below it has no quotient.
func rowOfNoughts[T number[T]](t *testing.T, bad T) {
	o := bad.Of(0)
	told(t, "Fold, noughts first", of(2, o, o, bad, bad))(house.Fold(wholes[T](2, 0, 0, 3, 4)))
	told(t, "Fold, noughts last", wholes[T](2, 2, 0, 0, 0))(house.Fold(wholes[T](2, 0, 2, 0, 0)))
	told(t, "Fold, noughts last", wholes[T](2, 2, 0, 0, 0))(house.Fold(wholes[T](2, 0, 0, -2, 0, 0, 0)))
	told(t, "Fold, noughts in the middle", of(3, bad.Of(2), o, o, o, o, o, bad.Of(-6), bad, bad))(house.Fold(wholes[T](3, 2, 0, 0, 0, 0, 0, -6, 5, 4)))
	told(t, "Fold, all noughts", of(3, o, o, o, bad, bad, o, bad, bad, bad))(house.Fold(wholes[T](3, make([]int, 12)...)))
	// What is in line with a row above it leaves noughts.
	told(t, "Fold, a row twice", wholes[T](2, 2, 0, 2, 0))(house.Fold(wholes[T](2, 0, 2, 0, 2)))
	told(t, "Fold, half a row", wholes[T](2, 4, 0, -2, 0))(house.Fold(wholes[T](2, 0, -4, 0, 0, 2, 0)))
	for m := 1; m <= 16; m++ {
		told(t, "Fold of noughts", of(1, o))(house.Fold(wholes[T](1, make([]int, m)...)))
	}
}

func TestNoughts(t *testing.T) {
	rowOfNoughts(t, badFraction)
	rowOfNoughts(t, badNum)
}

// P8.1: roots and quotients that there are not.
func TestNoRootNoQuotient(t *testing.T) {
	o, two, three := frac.New(0, 1), frac.New(2, 1), frac.New(3, 1)
	told(t, "Fold without a root", of(1, badFraction))(house.Fold(wholes[fraction](1, 1, 1)))
	told(t, "Fold without a root", of(2, badFraction, o, badFraction, badFraction))(house.Fold(wholes[fraction](2, 1, -1, 3, 4)))
	told(t, "Fold without a root at the end", of(2, two, o, three, badFraction))(house.Fold(wholes[fraction](2, 2, 0, 0, 3, 1, 1)))
	// About 0 a square is held to be below 0, too, so it has no root.
	zero, about := env.Point(0), num{V: 0, Low: -1, High: 1}
	told(t, "Fold about 0", of(2, badNum, zero, badNum, badNum))(house.Fold(of(2, about, zero, env.Point(one), env.Point(one))))
	told(t, "Fold about 0 at the end", of(2, env.Point(one), zero, zero, badNum))(house.Fold(of(2, env.Point(one), zero, zero, about)))
	// 3 units at most: the square is less than a unit, its root less than 2^12 units. A V that is 0 is not below 0, so it is
	// not turned back, and by what encloses 0 there is no quotient.
	less, most := num{V: 0, Low: -1 << 12, High: 0}, num{V: 0, Low: 0, High: 3}
	told(t, "Fold of 0 and more", of(1, less))(house.Fold(of(1, most)))
	told(t, "Fold of 0 and more", of(2, less, zero, badNum, badNum))(house.Fold(of(2, most, zero, env.Point(one), env.Point(one))))
}

// P8.1: the greatest numbers there are: what may not be is Bad.
func TestGreatest(t *testing.T) {
	for n, m := range sides {
		bads := func(o, bad num) []num {
			l := slices.Repeat([]num{o}, n*n)
			for i := range n {
				copy(l[i*n:], slices.Repeat([]num{bad}, i+1))
			}
			return l
		}
		told(t, "Fold", of(n, bads(env.Point(0), badNum)...))(house.Fold(of(n, slices.Repeat([]num{env.Point(api.Max)}, n*m)...)))
		f := of(n, slices.Repeat([]fraction{{N: -top, D: 1}}, n*m)...)
		told(t, "Fold", of(n, folded(f)...))(house.Fold(f))
	}
	told(t, "Fold", of(1, env.Point(1<<37)))(house.Fold(of(1, env.Point(-1<<37))))
	told(t, "Fold", of(1, badNum))(house.Fold(of(1, env.Point(1<<37+1))))
	told(t, "Fold", wholes[fraction](1, 1<<15))(house.Fold(wholes[fraction](1, 0, -1<<15)))
	told(t, "Fold", of(1, badFraction))(house.Fold(wholes[fraction](1, 0, -1<<15-1)))
}

// P8.1: a later column changes no row above it, and of those below only what is from it on: what is folded of the first
// rows, and one of those below, stands in what is folded of all.
func TestLaterColumns(t *testing.T) {
	for n, m := range sides {
		l := mixed(n*17+m, n*m, 30)
		a := wholes[num](n, l...)
		all, _ := house.Fold(a)
		for k := range n {
			for _, i := range []int{k, (k + n) / 2, n - 1} {
				rows := a.L[:(k+1)*m]
				if i > k {
					rows = slices.Concat(rows, a.Row(i))
				}
				b := of(len(rows)/m, rows...)
				s, _ := house.Fold(b)
				like(t, "what the first columns leave", s.Row(s.Rows - 1)[:k+1], all.Row(i)[:k+1])
			}
		}
	}
}

// P8.1: columns of 0 behind the others change nothing, from as many columns as rows up to 16.
func TestNoughtsBeside(t *testing.T) {
	for n := 1; n <= 16; n++ {
		a := wholes[num](n, mixed(n, n*n, 12)...)
		want, _ := house.Fold(a)
		for m := n + 1; m <= 16; m++ {
			b, _ := a.Beside(wholes[num](n, make([]int, n*(m-n))...))
			told(t, "Fold", want)(house.Fold(b))
		}
	}
}

// signs turns the diagonal below 0 in each column, in each two, and in all; numbers above it stay.
func signs[T number[T]](t *testing.T, n int) {
	l := counted(n * n)
	for k := range l { // of both signs, but for the diagonal
		if k%3 == 0 && k%(n+1) != 0 {
			l[k] = -l[k]
		}
	}
	all, allTurned := slices.Clone(l), slices.Clone(l)
	for k := range n {
		below, turned := slices.Clone(l), slices.Clone(l)
		below[k*n+k], all[k*n+k] = -l[k*n+k], -l[k*n+k]
		for i := k + 1; i < n; i++ {
			turned[i*n+k], allTurned[i*n+k] = -l[i*n+k], -l[i*n+k]
		}
		told(t, "Signs", wholes[T](n, turned...))(house.Signs(wholes[T](n, below...)))
		told(t, "Signs of 0", wholes[T](n, with(l, k*n+k, 0)...))(house.Signs(wholes[T](n, with(l, k*n+k, 0)...)))
	}
	told(t, "Signs", wholes[T](n, allTurned...))(house.Signs(wholes[T](n, all...)))
	told(t, "Signs above 0", wholes[T](n, l...))(house.Signs(wholes[T](n, l...)))
	told(t, "Signs of noughts", wholes[T](n, make([]int, n*n)...))(house.Signs(wholes[T](n, make([]int, n*n)...)))
}

func TestSigns(t *testing.T) {
	for n := 1; n <= 16; n++ {
		signs[fraction](t, n)
		signs[num](t, n)
	}
	told(t, "Signs", of(2, fractions(1, 2, -3, 4, -2, 3, 1, 5)...))(house.Signs(of(2, fractions(-1, 2, -3, 4, 2, 3, 1, 5)...)))
}

// P8.1: a Sign is a value's, whatever the bounds; Bad numbers stay, and what may not be is Bad where it is turned.
func TestSignsBounds(t *testing.T) {
	below, turned := num{V: -1, Low: -5, High: 3}, num{V: 1, Low: -3, High: 5}
	about, x := num{V: 0, Low: -5, High: 3}, env.Point(7)
	less := env.Point(-7)
	told(t, "Signs", of(2, turned, x, less, turned))(house.Signs(of(2, below, x, x, below)))
	told(t, "Signs about 0", of(2, about, x, x, turned))(house.Signs(of(2, about, x, x, turned)))
	told(t, "Signs, Bad on the diagonal", of(2, badNum, less, less, badNum))(house.Signs(of(2, badNum, less, less, badNum)))
	told(t, "Signs, Bad beside it", of(2, x, badNum, badNum, x))(house.Signs(of(2, less, badNum, badNum, less)))
	out := num{V: -1, Low: 3, High: -3}
	told(t, "Signs, out of order", of(2, badNum, out, badNum, x))(house.Signs(of(2, out, out, out, x)))
	told(t, "Signs, out of order", of(2, x, out, out, x))(house.Signs(of(2, x, out, out, x)))
	odd := fraction{N: -2, D: 4}
	told(t, "Signs, not in lowest terms", of(2, odd, odd, odd, odd))(house.Signs(of(2, odd, odd, odd, odd)))
	told(t, "Signs, not in lowest terms", of(2, frac.New(1, 2), odd, badFraction, odd))(house.Signs(of(2, frac.New(-1, 2), odd, odd, odd)))
}

// mayNotBe has nothing to tell.
func mayNotBe[T number[T]](t *testing.T, m mat.Mat[T]) {
	t.Helper()
	none[T](t, "Fold")(house.Fold(m))
	none[T](t, "Signs")(house.Signs(m))
}

func allThatMayNotBe[T number[T]](t *testing.T) {
	mayNotBe(t, mat.Mat[T]{})
	mayNotBe(t, mat.Mat[T]{L: []T{}})
	for _, s := range [][3]int{{2, 2, 3}, {2, 2, 5}, {2, 2, 0}, {1, 1, 0}, {1, 1, 2}, {0, 0, 1}, {0, 1, 0}, {1, 0, 0}, {-1, -1, 1}, {-2, -2, 4}, {2, 3, 4}, {2, 3, 5}, {2, 3, 7}, {3, 3, 6}, {4, 4, 9}, {1, 17, 17}, {17, 17, 289}, {16, 17, 272}, {16, 16, 255}, {16, 16, 257}, {math.MaxInt, math.MaxInt, 1}, {math.MinInt, math.MinInt, 0}, {-1, 1, 1}, {1 << 32, 1 << 32, 0}, {1<<62 + 1, 1<<62 + 1, 1}, {1 << 31, 1 << 31, 4}, {1, math.MaxInt, 1}} {
		// As many numbers as there should be, if the room behind the end were counted.
		l := vec.Whole[T](counted(400))
		mayNotBe(t, mat.Mat[T]{Rows: s[0], Cols: s[1], L: l[:s[2]]})
		mayNotBe(t, mat.Mat[T]{Rows: s[0], Cols: s[1], L: slices.Clip(l[:s[2]])})
		mayNotBe(t, mat.Mat[T]{Rows: s[0], Cols: s[1]})
	}
	for rows := 1; rows <= 16; rows++ {
		mayNotBe(t, mat.Mat[T]{Rows: rows, Cols: rows})
		for cols := 1; cols <= 16; cols++ {
			m := wholes[T](rows, counted(rows*cols)...)
			_, isFold := house.Fold(m)
			_, isSigns := house.Signs(m)
			if isFold != (rows <= cols) || isSigns != (rows == cols) {
				t.Error("of", rows, "by", cols, "Fold and Signs are", isFold, isSigns)
			}
			if rows > cols {
				mayNotBe(t, m)
			} else if rows < cols {
				none[T](t, "Signs of an oblong")(house.Signs(m))
			}
		}
	}
}

// P8.1: the zero matrix, those whose Rows, Cols and L do not go together, nil rows, and oblongs.
func TestMayNotBe(t *testing.T) {
	allThatMayNotBe[fraction](t)
	allThatMayNotBe[num](t)
}

// oneWrong puts each wrong number at each place of what folds: its row is Bad, and those below it are, from there on.
func oneWrong[T number[T]](t *testing.T, bad T, wrongs ...T) {
	const n, m = 4, 5
	l := lower(3, n, 6)
	a := wholes[T](n, placed(l, n, m, 2)...)
	for place := range n * m {
		want := vec.Whole[T](l)
		row := place / m
		for i := row; i < n; i++ {
			for k := range i + 1 {
				if i == row || k >= row {
					want[i*n+k] = bad
				}
			}
		}
		for _, wrong := range wrongs {
			told(t, "Fold", of(n, want...))(house.Fold(of(n, with(a.L, place, wrong)...)))
		}
	}
	for _, wrong := range wrongs {
		told(t, "Fold of one", of(1, bad))(house.Fold(of(1, wrong)))
	}
}

// P8.1: matrices in which one number is Bad, or may not be.
func TestWrong(t *testing.T) {
	oneWrong(t, badFraction, badFraction, fraction{N: 1, D: 2, Bad: true}, fraction{}, fraction{N: 2, D: 4}, fraction{N: 1, D: -2}, fraction{N: top + 1, D: 1}, fraction{N: math.MinInt, D: math.MinInt})
	oneWrong(t, badNum, badNum, num{V: one, Low: one, High: one, Bad: true}, num{V: one, Low: 2 * one, High: one}, num{V: 3, Low: 1, High: 2}, num{V: api.Max + 1, Low: api.Max + 1, High: api.Max + 1}, num{V: math.MinInt, Low: math.MinInt, High: math.MaxInt})
}

// P8.1: what is handed in does not change, the room behind its end included, and no answer shares memory with it, or with
// another answer.
func TestMemory(t *testing.T) {
	l := fractions(3, 1, 4, 1, 5, 1, 10, 1, -2, 1, 7, 1, 1, 1)
	lWas := slices.Clone(l)
	list := func(m mat.Mat[fraction], _ bool) []fraction { return m.L }
	calls := []func() []fraction{
		func() []fraction { return list(house.Fold(of(2, l[:4]...))) },
		func() []fraction { return list(house.Fold(of(1, l[:2]...))) },
		func() []fraction { return list(house.Fold(of(1, l[:1]...))) },
		func() []fraction { return list(house.Fold(of(2, l[:6]...))) },
		func() []fraction { return list(house.Signs(of(2, l[:4]...))) },
		func() []fraction { return list(house.Signs(of(1, l[:1]...))) },
		func() []fraction { return list(house.Signs(of(1, l[4:5]...))) },
		func() []fraction { return list(house.Signs(of(2, l[1:5]...))) },
	}
	var was, again [][]fraction
	for _, call := range calls {
		first, second := call(), call()
		was = append(was, slices.Clone(first))
		again = append(again, second)
		spoil(first)
	}
	for i, l := range again {
		if len(l) == 0 {
			t.Error("no answer of call", i)
		}
		like(t, "an answer beside another one that has changed", l, was[i])
	}
	like(t, "what was handed in", l, lWas)
}

// spoil writes over a row, and over the room behind its end.
func spoil(l []fraction) {
	l = l[:cap(l)]
	for i := range l {
		l[i] = fraction{N: 77, D: 1}
	}
}
