package root_test

import (
	"math"
	"slices"
	"strconv"
	"strings"
	"testing"

	"couplet/api"
	"couplet/env"
	"couplet/frac"
	"couplet/house"
	"couplet/joseph"
	"couplet/mat"
	"couplet/root"
	"couplet/vec"
)

const (
	one = api.Unit
	top = api.MaxFrac
)

type (
	fraction = frac.Frac
	num      = env.Num
)

var (
	badFraction = fraction{Bad: true}
	badNum      = num{Bad: true}
)

// number is a kind of numbers that can be held against each other.
type number[T any] interface {
	comparable
	vec.Field[T]
}

// step is a kind of numbers that says what was done, of what, and in which order; a Neg is below 0.
type step string

// done are all steps but whole numbers, in the order in which they were asked for.
var done []step

// short are the names of steps that are too long to be kept as they are: the same one for the same step.
var short = map[step]step{}

func (a step) Add(b step) step { return reckon("(" + a + "+" + b + ")") }
func (a step) Sub(b step) step { return reckon("(" + a + "-" + b + ")") }
func (a step) Mul(b step) step { return reckon("(" + a + "*" + b + ")") }
func (a step) Div(b step) step { return reckon("(" + a + "/" + b + ")") }
func (a step) Root() step      { return reckon("root" + a) }
func (a step) Neg() step       { return reckon("neg" + a) }
func (a step) Of(n int) step   { return step(strconv.Itoa(n)) }

func (a step) Sign() int {
	if strings.HasPrefix(string(a), "neg") {
		return -1
	}
	return 1
}

func reckon(a step) step {
	// A Neg keeps its name, by which its Sign is told.
	if len(a) > 1000 && a.Sign() > 0 {
		if _, known := short[a]; !known {
			short[a] = step("#" + strconv.Itoa(len(short)))
		}
		a = short[a]
	}
	done = append(done, a)
	return a
}

// found are those of the steps done that are among these, in the order in which they were done.
func found(among []step) []step {
	return slices.DeleteFunc(slices.Clone(done), func(s step) bool { return !slices.Contains(among, s) })
}

// named is a row of so many steps, each of which has a name of its own.
func named(name step, count int) []step {
	var l []step
	for i := range count {
		l = append(l, name+step(strconv.Itoa(i)))
	}
	return l
}

// fractions are n by d of each two numbers.
func fractions(parts ...int) []fraction {
	var l []fraction
	for p := range slices.Chunk(parts, 2) {
		l = append(l, frac.New(p[0], p[1]))
	}
	return l
}

// mixed are whole numbers of at most so much either way, always the same ones.
func mixed(seed, count, most int) []int {
	x := uint64(seed)*2 + 0x9e3779b97f4a7c15
	var l []int
	for range count {
		x ^= x << 13
		x ^= x >> 7
		x ^= x << 17
		l = append(l, int(x>>16)%(2*most+1)-most)
	}
	return l
}

// counted are the whole numbers from 1 on.
func counted(count int) []int {
	var l []int
	for i := range count {
		l = append(l, i+1)
	}
	return l
}

// lower are whole numbers of a triangle: 0 above the diagonal, and on it 1, 2 and 4 by turns, by which quotients are exact
// of units, too.
func lower(seed, n, most int) []int {
	l := mixed(seed, n*n, most)
	for i := range n {
		l[i*n+i] = 1 << ((i + seed) % 3)
		clear(l[i*n+i+1 : (i+1)*n])
	}
	return l
}

// of is a matrix of so many rows.
func of[T vec.Field[T]](rows int, l ...T) mat.Mat[T] {
	return mat.Mat[T]{Rows: rows, Cols: len(l) / rows, L: l}
}

func wholes[T vec.Field[T]](rows int, l ...int) mat.Mat[T] {
	return of(rows, vec.Whole[T](l)...)
}

func unit[T vec.Field[T]](n int) mat.Mat[T] {
	m, _ := mat.Unit[T](n)
	return m
}

func noughts[T vec.Field[T]](n int) mat.Mat[T] {
	return wholes[T](n, make([]int, n*n)...)
}

// state is one of these numbers, and then those of S, row by row.
func state[T vec.Field[T]](n int, l ...T) root.State[T] {
	return root.State[T]{X: l[:n], S: of(n, l[n:]...)}
}

// numbers are all numbers of a state: those of X, then those of S.
func numbers[T vec.Field[T]](s root.State[T]) []T {
	return slices.Concat(s.X, s.S.L)
}

// with is a row, but for one number of it.
func with[T any](l []T, i int, x T) []T {
	l = slices.Clone(l)
	l[i] = x
	return l
}

// nought tells whether x is what Of(0) is.
func nought[T number[T]](x T) bool { return x == x.Of(0) }

// like holds a row against what it should be; none is as good as an empty one.
func like[T comparable](t *testing.T, name string, got, want []T) {
	t.Helper()
	if !slices.Equal(got, want) {
		t.Error(name, "is", got, "not", want)
	}
}

// told holds a state that there must be against what it should be.
func told[T number[T]](t *testing.T, name string, want root.State[T]) func(root.State[T], bool) {
	return func(got root.State[T], is bool) {
		t.Helper()
		if !is || !got.Right() || len(got.X) != len(want.X) || !slices.Equal(numbers(got), numbers(want)) {
			t.Error(name, "is", got, is, "not", want)
		}
	}
}

// updated holds a state and the news that there must be against what they should be.
func updated[T number[T]](t *testing.T, name string, want root.State[T], surprise, spread T) func(root.State[T], joseph.News[T], bool) {
	return func(got root.State[T], news joseph.News[T], is bool) {
		t.Helper()
		told(t, name, want)(got, is)
		if news.Surprise != surprise || news.Spread != spread {
			t.Error(name, "has the news", news, "not", surprise, spread)
		}
	}
}

// covers holds what a triangle stands for against what it should be.
func covers[T number[T]](t *testing.T, s root.State[T], want ...T) {
	t.Helper()
	n := len(s.X)
	if got := s.Cover(); got.Rows != n || got.Cols != n || !slices.Equal(got.L, want) {
		t.Error("Cover of", s, "is", got, "not", want)
	}
}

// none asks for zero ones, and false.
func none[T number[T]](t *testing.T, name string) func(root.State[T], bool) {
	return func(got root.State[T], is bool) {
		t.Helper()
		if is || len(got.X) != 0 || got.S.Rows != 0 || got.S.Cols != 0 || len(got.S.L) != 0 {
			t.Error(name, "is", got, is)
		}
	}
}

// noneToo asks for no news, either.
func noneToo[T number[T]](t *testing.T, name string) func(root.State[T], joseph.News[T], bool) {
	return func(got root.State[T], news joseph.News[T], is bool) {
		t.Helper()
		none[T](t, name)(got, is)
		if news != (joseph.News[T]{}) {
			t.Error(name, "has the news", news)
		}
	}
}

// dot is what the products of both leave, reckoned one by one from 0 on.
func dot[T vec.Field[T]](a, b []T) T {
	sum := a[0].Of(0)
	for i := range a {
		sum = sum.Add(a[i].Mul(b[i]))
	}
	return sum
}

// rows are those of n by n numbers.
func rows[T any](n int, l []T) [][]T {
	return slices.Collect(slices.Chunk(l, n))
}

// turned has rows as columns.
func turned[T any](l [][]T) [][]T {
	var all [][]T
	for k := range l[0] {
		var row []T
		for i := range l {
			row = append(row, l[i][k])
		}
		all = append(all, row)
	}
	return all
}

// times is of each row and each column the dot.
func times[T vec.Field[T]](a, b [][]T) [][]T {
	var all [][]T
	for _, row := range a {
		var l []T
		for _, col := range turned(b) {
			l = append(l, dot(row, col))
		}
		all = append(all, l)
	}
	return all
}

// begun is a state of a triangle, as the words say it.
func begun[T vec.Field[T]](x []T, s mat.Mat[T]) root.State[T] {
	n, l := len(x), slices.Clone(s.L)
	for i := range n {
		for k := i + 1; k < n; k++ {
			l[i*n+k] = x[0].Of(0)
		}
	}
	return root.State[T]{X: x, S: of(n, l...)}
}

// covered are the numbers of what a triangle stands for, as the words say it.
func covered[T vec.Field[T]](s root.State[T]) []T {
	n := len(s.X)
	l := rows(n, s.S.L)
	p := times(l, turned(l))
	for i := range p {
		for k := range i {
			p[k][i] = p[i][k]
		}
	}
	return slices.Concat(p...)
}

// ticked is what it is to predict, as the words say it.
func ticked[T vec.Field[T]](s root.State[T], f, g mat.Mat[T]) root.State[T] {
	n := len(s.X)
	var x, l []T
	for _, row := range rows(n, f.L) {
		x = append(x, dot(row, s.X))
	}
	for i, row := range times(rows(n, f.L), rows(n, s.S.L)) {
		l = slices.Concat(l, row, g.L[i*n:(i+1)*n])
	}
	triangle, _ := house.Fold(of(n, l...))
	return root.State[T]{X: x, S: triangle}
}

// parts are what it is to update, and what was reckoned, in this order.
type parts[T vec.Field[T]] struct {
	s    root.State[T]
	a, e T
	all  []T
}

func (o *parts[T]) tell(x T) T {
	o.all = append(o.all, x)
	return x
}

// measured is what it is to update, as the words say it.
func measured[T vec.Field[T]](s root.State[T], h []T, r, z T) parts[T] {
	n, l := len(h), slices.Clone(s.S.L)
	o := parts[T]{a: r}
	var w, e, k []T
	for _, col := range turned(rows(n, l)) {
		w = append(w, o.tell(dot(col, h)))
		e = append(e, r.Of(0))
	}
	for j := n - 1; j >= 0; j-- {
		b := o.tell(o.a.Add(w[j].Mul(w[j])))
		d := o.tell(o.a.Div(b).Root())
		c := o.tell(w[j].Div(o.a.Mul(b).Root()))
		for i := j * n; i < n*n; i += n {
			was := l[i+j]
			l[i+j] = o.tell(was.Mul(d).Sub(e[i/n].Mul(c)))
			e[i/n] = o.tell(e[i/n].Add(was.Mul(w[j])))
		}
		o.a = b
	}
	for _, x := range e {
		k = append(k, o.tell(x.Div(o.a)))
	}
	o.e = o.tell(z.Sub(dot(h, s.X)))
	for i, x := range s.X {
		o.s.X = append(o.s.X, o.tell(x.Add(k[i].Mul(o.e))))
	}
	o.s.S = of(n, l...)
	return o
}

// asPredicted holds Predict against the words.
func asPredicted[T number[T]](t *testing.T, s root.State[T], f, g mat.Mat[T]) {
	t.Helper()
	told(t, "Predict", ticked(s, f, g))(root.Predict(s, f, g))
}

// asMeasured holds Update against the words.
func asMeasured[T number[T]](t *testing.T, s root.State[T], h []T, r, z T) {
	t.Helper()
	o := measured(s, h, r, z)
	updated(t, "Update", o.s, o.e, o.a)(root.Update(s, h, r, z))
}

// byHand are small ones, whose numbers are exact of units, too.
func byHand[T number[T]](t *testing.T) {
	w := func(l ...int) []T { return vec.Whole[T](l) }
	n := func(x int) T { return w(x)[0] }
	part := func(x, by int) T { return n(x).Div(n(by)) }
	two, above := state(2, w(1, 2, 1, 0, 1, 1)...), state(2, w(1, 2, 1, 5, 1, 1)...)
	told(t, "New", state(1, w(7, -3)...))(root.New(w(7), wholes[T](1, -3)))
	told(t, "New", two)(root.New(w(1, 2), wholes[T](2, 1, 0, 1, 1)))
	told(t, "New", two)(root.New(w(1, 2), wholes[T](2, 1, 5, 1, 1)))
	covers(t, state(1, w(7, -3)...), n(9))
	covers(t, two, w(1, 1, 1, 2)...)

	told(t, "Predict", state(1, w(-10, 10)...))(root.Predict(state(1, w(5, 3)...), wholes[T](1, -2), wholes[T](1, 8)))
	// f times S is (-2 0; 5 3), and the 3 has g's 4 beside it.
	tick := state(2, w(-1, 7, 2, 0, -5, 5)...)
	told(t, "Predict", tick)(root.Predict(state(2, w(1, 2, 2, 0, 1, 1)...), wholes[T](2, -1, 0, 1, 3), wholes[T](2, 0, 0, 0, 4)))
	covers(t, tick, w(4, -10, -10, 50)...)
	// What g has in its first column is noise as well.
	told(t, "Predict", tick)(root.Predict(state(2, w(1, 2, 2, 0, 1, 1)...), wholes[T](2, -1, 0, 1, 3), wholes[T](2, 0, 0, -4, 0)))

	// a goes from 3 to 12, and from there to 48; d is 1 by 2, c is 1 by 2, and then 1 by 4.
	updated(t, "Update", state(1, n(4), part(1, 2)), n(16), n(12))(root.Update(state(1, w(0, 1)...), w(3), n(3), n(16)))
	updated(t, "Update", state(1, n(4), part(-1, 2)), n(16), n(12))(root.Update(state(1, w(0, -1)...), w(3), n(3), n(16)))
	updated(t, "Update", state(1, n(-9), part(3, 2)), n(-16), n(12))(root.Update(state(1, w(3, 3)...), w(1), n(3), n(-13)))
	after := state(2, n(3), n(5), part(1, 2), n(0), part(-1, 4), part(1, 2))
	updated(t, "Update", after, n(16), n(48))(root.Update(two, w(3, 3), n(3), n(25)))
	covers(t, after, part(1, 4), part(-1, 8), part(-1, 8), part(5, 16))
	// What stands above the diagonal is of its column, but not changed.
	after.S.L[1] = n(5)
	updated(t, "Update", after, n(16), n(48))(root.Update(above, []T{part(-3, 4), part(27, 4)}, n(3), part(115, 4)))
}

// P10.1: small ones, by hand.
func TestByHand(t *testing.T) {
	byHand[fraction](t)
	byHand[num](t)
	// a goes from 9 to 25, and from there to 169; c is 4 by 15, and then 12 by 65.
	two := state(2, fractions(1, 1, 2, 1, 1, 1, 0, 1, 1, 1, 1, 1)...)
	after := state(2, fractions(4, 1, 6, 1, 5, 13, 0, 1, -23, 65, 3, 5)...)
	updated(t, "Update", after, frac.New(169, 4), frac.New(169, 1))(root.Update(two, fractions(8, 1, 4, 1), frac.New(9, 1), frac.New(233, 4)))
}

// P10.1: the examples: X 0, S 1, h 1, r 3, z 4; and X 0, root 1, a tick of 1 and 1, h 1, r 1, z 3.
func TestExamples(t *testing.T) {
	o, unit := env.Point(0), unit[num](1)
	s, is := root.New([]num{o}, unit)
	after, news, isToo := root.Update(s, unit.L, env.Point(3*one), env.Point(4*one))
	if !is || !isToo || after.X[0] != env.Point(one) || !env.Encloses(after.Cover().L[0], 3, 4) || news.Spread != env.Point(4*one) || news.Surprise != env.Point(4*one) {
		t.Error("Update is", after, news, is, isToo)
	}
	s, is = root.Predict(s, unit, unit)
	after, news, isToo = root.Update(s, unit.L, env.Point(one), env.Point(3*one))
	if !is || !isToo || !env.Encloses(after.X[0], 2, 1) || !env.Encloses(after.Cover().L[0], 2, 3) || !env.Encloses(news.Spread, 3, 1) || news.Surprise != env.Point(3*one) {
		t.Error("Update is", after, news, is, isToo)
	}
	for _, x := range numbers(after) {
		if x.High-x.Low > 20 {
			t.Error("Update has so wide a number as", x)
		}
	}
}

// P10.1: what is done, of what, and in which order, of one number, as texts.
func TestSteps(t *testing.T) {
	done = nil
	fold, _ := house.Fold(of[step](1, "(0+(f*s))", "g"))
	order := slices.Concat([]step{"(f*x)", "(0+(f*x))", "(f*s)", "(0+(f*s))"}, done)
	done = nil
	told(t, "Predict", state(1, "(0+(f*x))", fold.L[0]))(root.Predict(state[step](1, "x", "s"), of[step](1, "f"), of[step](1, "g")))
	like(t, "the order of Predict", done, order)

	w := step("(0+(s*h))")
	ww := "(" + w + "*" + w + ")"
	b := "(r+" + ww + ")"
	ab, d, both := "(r/"+b+")", "root(r/"+b+")", "(r*"+b+")"
	c := "(" + w + "/root" + both + ")"
	sd, ec := "(s*"+d+")", "(0*"+c+")"
	left := "(" + sd + "-" + ec + ")"
	sw := "(s*" + w + ")"
	e := "(0+" + sw + ")"
	k := "(" + e + "/" + b + ")"
	far := step("(z-(0+(h*x)))")
	by := "(" + k + "*" + far + ")"
	x := "(x+" + by + ")"
	done = nil
	updated(t, "Update", state(1, x, left), far, b)(root.Update(state[step](1, "x", "s"), []step{"h"}, "r", "z"))
	like(t, "the order of Update", done, []step{"(s*h)", w, ww, b, ab, d, both, "root" + both, c, sd, ec, left, sw, e, k, "(h*x)", "(0+(h*x))", far, by, x})
}

// P10.1: of two numbers the same: the last column first, and what was gathered of a row ahead of its change.
func TestTwoColumns(t *testing.T) {
	first, last := step("((0+(s*h))+(u*i))"), step("((0+(o*h))+(v*i))")
	a := "(r+(" + last + "*" + last + "))"
	b := "(" + a + "+(" + first + "*" + first + "))"
	d, c := "root(r/"+a+")", "("+last+"/root(r*"+a+"))"
	d2, c2 := "root("+a+"/"+b+")", "("+first+"/root("+a+"*"+b+"))"
	e := "(0+(v*" + last + "))"
	e0, e1 := "(0+(s*"+first+"))", "("+e+"+(u*"+first+"))"
	v, s, u := "((v*"+d+")-(0*"+c+"))", "((s*"+d2+")-(0*"+c2+"))", "((u*"+d2+")-("+e+"*"+c2+"))"
	far := step("(z-((0+(h*x))+(i*y)))")
	x, y := "(x+(("+e0+"/"+b+")*"+far+"))", "(y+(("+e1+"/"+b+")*"+far+"))"
	done = nil
	updated(t, "Update", state(2, x, y, s, "o", u, v), far, b)(root.Update(state[step](2, "x", "y", "s", "o", "u", "v"), []step{"h", "i"}, "r", "z"))
	order := []step{first, last, a, d, c, v, e, b, d2, c2, s, e0, u, e1, "(" + e0 + "/" + b + ")", "(" + e1 + "/" + b + ")", far, x, y}
	like(t, "the order of Update", found(order), order)
}

// P10.1: of more numbers the same, number by number.
func TestOrder(t *testing.T) {
	for n := 1; n <= api.MaxState; n++ {
		s := state(n, slices.Concat(named("x", n), named("s", n*n))...)
		f, g, h := of(n, named("f", n*n)...), of(n, named("g", n*n)...), named("h", n)
		told(t, "New", begun(s.X, g))(root.New(s.X, g))
		asPredicted(t, s, f, g)
		covers(t, s, covered(s)...)
		orderOfPredict(t, s, f, g)

		o := measured(s, h, "r", "z")
		asMeasured(t, s, h, "r", "z")
		done = nil
		root.Update(s, h, "r", "z")
		like(t, "the order of Update", found(o.all), o.all)
		if len(o.all) != n+3*n+n*(n+1)+n+1+n {
			t.Error("of", n, "numbers so few steps:", len(o.all))
		}
	}
}

// orderOfPredict asks that X is reckoned first, then f times S, and then all that house folds, step by step.
func orderOfPredict(t *testing.T, s root.State[step], f, g mat.Mat[step]) {
	t.Helper()
	n := len(s.X)
	by := times(rows(n, f.L), rows(n, s.S.L))
	order := slices.Concat(ticked(s, f, g).X, slices.Concat(by...))
	both, _ := of(n, slices.Concat(by...)...).Beside(g)
	done = nil
	house.Fold(both)
	last := done
	done = nil
	root.Predict(s, f, g)
	if len(done) < len(last) {
		t.Fatal("Predict takes so few steps:", len(done))
	}
	like(t, "the end of Predict", done[len(done)-len(last):], last)
	done = done[:len(done)-len(last)]
	like(t, "the order of Predict", found(order), order)
}

// asReckoned asks that, whatever the numbers are, points and with bounds, and an S that is no triangle, what is told is what
// was reckoned.
func asReckoned[T number[T]](t *testing.T, n, seed int, change func(i int, x T) T) {
	all := func(part, count, most int) []T {
		l := vec.Whole[T](mixed(seed*100+n*10+part, count, most))
		for i, x := range l {
			l[i] = change(i, x)
		}
		return l
	}
	s := state(n, all(1, n+n*n, 9)...)
	f, g := of(n, all(2, n*n, 3)...), of(n, all(3, n*n, 3)...)
	more := all(4, n+2, 7)
	begun := begun(s.X, s.S)
	told(t, "New", begun)(root.New(s.X, s.S))
	for _, s := range []root.State[T]{s, begun} {
		asPredicted(t, s, f, g)
		asMeasured(t, s, more[:n], more[n], more[n+1])
		asMeasured(t, s, more[:n], more[n].Mul(more[n]), more[n+1])
		covers(t, s, covered(s)...)
	}
}

func TestReckoned(t *testing.T) {
	for n := 1; n <= api.MaxState; n++ {
		for seed := range 30 {
			asReckoned(t, n, seed, func(_ int, x fraction) fraction { return x })
			asReckoned(t, n, seed, func(i int, x fraction) fraction { return x.Div(frac.New(i%3+1, 1)) })
			asReckoned(t, n, seed, func(_ int, x num) num { return x })
			asReckoned(t, n, seed, func(i int, x num) num { return x.Div(env.Point((i + 3) * one)) })
			asReckoned(t, n, seed, func(i int, x num) num { return num{V: x.V, Low: x.V - i*seed, High: x.V + i*300} })
		}
	}
}

// P10.1: the greatest number that may be, and one beyond.
func TestTooGreat(t *testing.T) {
	o, great, w := frac.New(0, 1), frac.New(top, 1), vec.Whole[fraction]
	told(t, "New", state(1, great, great))(root.New([]fraction{great}, of(1, great)))
	covers(t, state(1, o, great), badFraction)
	told(t, "Predict", state(1, badFraction, badFraction))(root.Predict(state(1, great, great), wholes[fraction](1, 2), wholes[fraction](1, 0)))
	told(t, "Predict", state(1, frac.New(-top, 1), frac.New(1<<15, 1)))(root.Predict(state(1, great, frac.New(1<<15, 1)), wholes[fraction](1, -1), wholes[fraction](1, 0)))
	updated(t, "Update", state(1, badFraction, frac.New(1, 2)), badFraction, frac.New(12, 1))(root.Update(state(1, great, frac.New(1, 1)), w([]int{3}), frac.New(3, 1), frac.New(-top, 1)))
	most := env.Point(api.Max)
	told(t, "New", state(1, most, most))(root.New([]num{most}, of(1, most)))
	covers(t, state(1, most, most), badNum)
	told(t, "Predict", state(1, badNum, badNum))(root.Predict(state(1, most, most), wholes[num](1, 2), wholes[num](1, 0)))
	told(t, "Predict", state(1, env.Point(-api.Max), env.Point(1<<37)))(root.Predict(state(1, most, env.Point(1<<37)), wholes[num](1, -1), wholes[num](1, 0)))
	// The spread may be as great as a number may be; the product of two such ones may not.
	updated(t, "Update", state(1, badNum, badNum), env.Point(one), badNum)(root.Update(state(1, env.Point(one), env.Point(one)), []num{env.Point(one)}, most, env.Point(2*one)))
	_, news, is := root.Update(state(1, env.Point(one), env.Point(1<<36)), []num{env.Point(one)}, env.Point(api.Max-1<<48), env.Point(2*one))
	if !is || news.Spread != most {
		t.Error("the greatest spread is", news, is)
	}
}

// stays asks that a tick of the unit and of no noise, and a measurement of nothing, change nothing.
func stays[T number[T]](t *testing.T, quarter T) {
	for n := 1; n <= api.MaxState; n++ {
		x := vec.Scale(vec.Whole[T](mixed(n, n, 20)), quarter)
		s := root.State[T]{X: x, S: of(n, vec.Scale(vec.Whole[T](lower(n, n, 5)), quarter)...)}
		told(t, "Predict by the unit", s)(root.Predict(s, unit[T](n), noughts[T](n)))
		// All but the triangle's own is noise, now.
		told(t, "Predict by noughts", root.State[T]{X: noughts[T](n).Row(0), S: s.S})(root.Predict(s, noughts[T](n), s.S))
		full := root.State[T]{X: x, S: of(n, vec.Scale(vec.Whole[T](mixed(n+9, n*n, 5)), quarter)...)}
		still := root.State[T]{X: x, S: noughts[T](n)}
		for _, s := range []root.State[T]{s, full, still} {
			updated(t, "Update of nothing", s, quarter, quarter)(root.Update(s, noughts[T](n).L[:n], quarter, quarter))
		}
		// What is known for sure is not changed, whatever is measured.
		updated(t, "Update of what is sure", still, quarter.Sub(dot(x, x)), quarter)(root.Update(still, x, quarter, quarter))
		covers(t, still, noughts[T](n).L...)
		// A column whose diagonal is below 0 is turned, and stands for the same.
		below := root.State[T]{X: x, S: of(n, vec.Scale(s.S.L, quarter.Of(-1))...)}
		told(t, "Predict by the unit", s)(root.Predict(below, unit[T](n), noughts[T](n)))
		covers(t, below, covered(s)...)
	}
}

// P10.1: a tick that changes nothing, and h of noughts.
func TestStays(t *testing.T) {
	stays(t, frac.New(1, 4))
	stays(t, frac.New(1, 3))
	stays(t, env.Point(one/4))
	stays(t, env.Point(one))
}

// nothingKnown ticks a triangle of noughts: below a row of noughts there is no quotient, as house says.
func nothingKnown[T number[T]](t *testing.T, bad T) {
	for n := 1; n <= api.MaxState; n++ {
		x := vec.Whole[T](counted(n))
		fold := begun(x, of(n, slices.Repeat([]T{bad}, n*n)...))
		fold.S.L[0] = bad.Of(0)
		still := root.State[T]{X: x, S: noughts[T](n)}
		told(t, "Predict of noughts", fold)(root.Predict(still, unit[T](n), noughts[T](n)))
		triangle := wholes[T](n, lower(n, n, 4)...)
		told(t, "Predict of noughts", begun(x, triangle))(root.Predict(still, unit[T](n), triangle))
	}
}

func TestNothingKnown(t *testing.T) {
	nothingKnown(t, badFraction)
	nothingKnown(t, badNum)
}

// noNoise is a measurement whose r is 0, or below it: where c is by 0, or there is no root, what the column leaves is Bad, and
// no more.
func noNoise[T number[T]](t *testing.T, bad T) {
	w := func(l ...int) []T { return vec.Whole[T](l) }
	o, n := bad.Of(0), func(x int) T { return bad.Of(x) }
	updated(t, "Update without noise", state(1, n(6), bad), n(1), n(4))(root.Update(state(1, w(5, 2)...), w(1), o, n(6)))
	updated(t, "Update of nothing, without noise", state(1, bad, bad), n(6), o)(root.Update(state(1, w(5, 2)...), w(0), o, n(6)))
	updated(t, "Update of what is sure, without noise", state(2, bad, bad, bad, o, bad, bad), n(-1), o)(root.Update(state(2, w(5, 2, 0, 0, 0, 0)...), w(1, 0), o, n(4)))
	// The last column says nothing, so the next one is the first one whose b is not 0.
	updated(t, "Update of the first one without noise", state(2, n(6), n(2), bad, o, bad, bad), n(1), n(4))(root.Update(state(2, w(5, 2, 2, 0, 0, 1)...), w(1, 0), o, n(6)))

	updated(t, "Update by noise below 0", state(1, n(7), bad), n(1), n(2))(root.Update(state(1, w(5, 2)...), w(1), n(-2), n(6)))
	updated(t, "Update by noise below 0", state(1, bad, bad), n(1), o)(root.Update(state(1, w(5, 2)...), w(1), n(-4), n(6)))
	// Of two that are below 0 there are both roots, and so all is as the words say.
	updated(t, "Update by noise far below 0", state(1, n(2), n(6)), n(1), n(-3))(root.Update(state(1, w(5, 3)...), w(1), n(-12), n(6)))
}

// P10.1: an r that is 0, or may not be filtered with.
func TestNoNoise(t *testing.T) {
	noNoise(t, badFraction)
	noNoise(t, badNum)
	// a goes from 0 to 36, and from there to 100: c of the first column is 2 by 15.
	s := state(2, fractions(1, 1, 2, 1, 1, 1, 0, 1, 1, 1, 2, 1)...)
	after := state(2, fractions(9, 1, 22, 1, 3, 5, 0, 1, -1, 1, 0, 0)...)
	updated(t, "Update without noise", after, frac.New(100, 1), frac.New(100, 1))(root.Update(s, fractions(5, 1, 3, 1), frac.New(0, 1), frac.New(111, 1)))
	// About 0 there is no quotient by the root, and below 0 no root.
	e, h, two := state(1, env.Point(one), env.Point(one)), []num{env.Point(one)}, env.Point(2*one)
	updated(t, "Update by what encloses 0", state(1, badNum, badNum), env.Point(one), num{V: 2 * one, Low: 0, High: 2 * one})(root.Update(e, h, num{V: one, Low: -one, High: one}, two))
	updated(t, "Update by what is not above 0", state(1, two, badNum), env.Point(one), num{V: one, Low: one, High: one})(root.Update(e, h, env.Point(0), two))
	// A root that no fraction is: a by b is 1 by 2.
	updated(t, "Update without a root", state(1, frac.New(3, 2), badFraction), frac.New(1, 1), frac.New(2, 1))(root.Update(state(1, fractions(1, 1, 1, 1)...), fractions(1, 1), frac.New(1, 1), frac.New(2, 1)))
}

// sizes asks of all sides whether there may be a state, and what goes together with one.
func sizes[T number[T]](t *testing.T) {
	const most = 6
	square := func(n int) mat.Mat[T] { return wholes[T](max(n, 1), counted(max(n, 1)*max(n, 1))...) }
	for n := range most {
		x := vec.Whole[T](counted(n))
		for rows := 1; rows < most; rows++ {
			for cols := 1; cols < most; cols++ {
				m := wholes[T](rows, counted(rows*cols)...)
				fits := 1 <= n && n <= 4 && rows == n && cols == n
				if s := (root.State[T]{X: x, S: m}); s.Right() != fits {
					t.Error("of", n, "numbers and", rows, "by", cols, "Right is", s.Right())
				}
				if _, is := root.New(x, m); is != fits {
					t.Error("of", n, "numbers and", rows, "by", cols, "New is", is)
				}
				doNotFit(t, root.State[T]{X: x, S: square(n)}, m, fits)
				if !fits {
					none[T](t, "New")(root.New(x, m))
					unfit(t, root.State[T]{X: x, S: m})
				}
			}
		}
	}
}

// doNotFit asks that a matrix of other sides is no tick of a state, nor a row of another length a measurement.
func doNotFit[T number[T]](t *testing.T, s root.State[T], m mat.Mat[T], fits bool) {
	t.Helper()
	n := max(len(s.X), 1)
	x := unit[T](1).L[0]
	_, isF := root.Predict(s, m, unit[T](n))
	_, isG := root.Predict(s, unit[T](n), m)
	_, isBoth := root.Predict(s, m, m)
	_, _, isH := root.Update(s, m.L, x, x)
	if isF != fits || isG != fits || isBoth != fits || isH != (s.Right() && len(m.L) == n) {
		t.Error("of", s, "and", m, "these are", isF, isG, isBoth, isH)
	}
	if !fits {
		none[T](t, "Predict")(root.Predict(s, m, unit[T](n)))
		none[T](t, "Predict")(root.Predict(s, unit[T](n), m))
	}
	if !isH {
		noneToo[T](t, "Update")(root.Update(s, m.L, x, x))
	}
}

// unfit asks that nothing is told of a state that may not be, whatever goes with it.
func unfit[T number[T]](t *testing.T, s root.State[T]) {
	t.Helper()
	if c := s.Cover(); s.Right() || c.Rows != 0 || c.Cols != 0 || len(c.L) != 0 {
		t.Error("Right is", s.Right(), "of", s, "and Cover", c)
	}
	for n := 1; n <= 5; n++ {
		none[T](t, "Predict")(root.Predict(s, unit[T](n), unit[T](n)))
		h := unit[T](n).L[:n]
		noneToo[T](t, "Update")(root.Update(s, h, h[0], h[0]))
	}
	none[T](t, "Predict")(root.Predict(s, s.S, s.S))
	noneToo[T](t, "Update")(root.Update(s, s.X, unit[T](1).L[0], unit[T](1).L[0]))
	none[T](t, "Predict")(root.Predict(s, mat.Mat[T]{}, mat.Mat[T]{}))
	noneToo[T](t, "Update")(root.Update(s, nil, unit[T](1).L[0], unit[T](1).L[0]))
}

// P10.1: states of 1 to 4 numbers, none and 5; and what does not go together. Right asks nothing of what stands above the
// diagonal.
func TestSizes(t *testing.T) {
	sizes[fraction](t)
	sizes[num](t)
}

// allThatMayNotBe goes through what has Rows, Cols and L that do not go together, and nothing at all.
func allThatMayNotBe[T number[T]](t *testing.T) {
	unfit(t, root.State[T]{})
	unfit(t, root.State[T]{X: []T{}, S: mat.Mat[T]{L: []T{}}})
	x := vec.Whole[T](counted(5))
	none[T](t, "New")(root.New(nil, mat.Mat[T]{}))
	none[T](t, "New")(root.New([]T{}, unit[T](1)))
	for _, m := range [][4]int{{1, 1, 0, 1}, {1, 1, 2, 1}, {2, 2, 3, 2}, {2, 2, 5, 2}, {2, 2, 0, 2}, {0, 0, 0, 1}, {0, 0, 1, 1}, {1, 0, 0, 1}, {0, 1, 0, 1}, {-1, -1, 1, 1}, {-2, -2, 4, 2}, {1, 4, 4, 2}, {4, 1, 4, 2}, {2, 3, 4, 2}, {4, 4, 15, 4}, {4, 4, 17, 4}, {5, 5, 25, 5}, {5, 5, 25, 4}, {16, 16, 256, 5}, {17, 17, 289, 5}, {math.MaxInt, math.MaxInt, 1, 1}, {math.MinInt, math.MinInt, 0, 1}, {1<<62 + 1, 1<<62 + 1, 1, 1}, {1 << 32, 1 << 32, 0, 1}, {1, math.MaxInt, 1, 1}} {
		// As many numbers as there should be, if the room behind the end were counted.
		l := vec.Whole[T](counted(400))
		for _, l := range [][]T{l[:m[2]], slices.Clip(l[:m[2]]), nil} {
			wrong := mat.Mat[T]{Rows: m[0], Cols: m[1], L: l}
			unfit(t, root.State[T]{X: x[:m[3]], S: wrong})
			none[T](t, "New")(root.New(x[:m[3]], wrong))
			for n := 1; n <= 4; n++ {
				doNotFit(t, root.State[T]{X: x[:n], S: unit[T](n)}, wrong, m[0] == n && m[1] == n && len(l) == n*n)
			}
		}
	}
	for n := 1; n <= 4; n++ {
		s := root.State[T]{X: x[:n], S: unit[T](n)}
		none[T](t, "Predict")(root.Predict(s, mat.Mat[T]{}, unit[T](n)))
		none[T](t, "Predict")(root.Predict(s, unit[T](n), mat.Mat[T]{}))
		noneToo[T](t, "Update")(root.Update(s, nil, x[0], x[0]))
		noneToo[T](t, "Update")(root.Update(s, []T{}, x[0], x[0]))
		noneToo[T](t, "Update")(root.Update(s, x[:n+1], x[0], x[0]))
		noneToo[T](t, "Update")(root.Update(s, x[:n-1], x[0], x[0]))
		unfit(t, root.State[T]{S: unit[T](n)})
		unfit(t, root.State[T]{X: x[:n]})
	}
}

func TestMayNotBe(t *testing.T) {
	allThatMayNotBe[fraction](t)
	allThatMayNotBe[num](t)
}

// whichBad tells of each number whether it is Bad.
func whichBad[T comparable](l []T, bad T) []bool {
	var all []bool
	for _, x := range l {
		all = append(all, x == bad)
	}
	return all
}

// wrongTick puts what is wrong at each place of a state, f and g, and tells which numbers are Bad, then.
func wrongTick[T number[T]](t *testing.T, n int, bad, wrong T) {
	all := vec.Whole[T](slices.Concat(counted(n), lower(0, n, 4), lower(0, n, 2), make([]int, n*n)))
	for place := range all {
		l := with(all, place, wrong)
		s, f, g := state(n, l[:n+n*n]...), of(n, l[n+n*n:n+2*n*n]...), of(n, l[n+2*n*n:]...)
		asPredicted(t, s, f, g)
		got, _ := root.Predict(s, f, g)
		line := place - n
		inX, inS, inF := line < 0, 0 <= line && line < n*n, n*n <= line && line < 2*n*n
		// Of one row that is Bad so are those below it, from its column on; one number of S is in all rows.
		from := max(line, 0) % (n * n) / n
		if inS {
			from = 0
		}
		var x, triangle []bool
		for i := range n {
			x = append(x, inX || inF && i == from)
			for k := range n {
				triangle = append(triangle, !inX && k <= i && (i == from || i > from && k >= from))
			}
		}
		like(t, "what is Bad of X", whichBad(got.X, bad), x)
		like(t, "what is Bad of S", whichBad(got.S.L, bad), triangle)
	}
}

// wrongMeasure puts what is wrong at each place of a state, h, r and z, and tells which numbers are Bad, then.
func wrongMeasure[T number[T]](t *testing.T, n int, bad, wrong T) {
	x, s, h := exactOne[T](n, n)
	all := slices.Concat(x, s, h, vec.Whole[T]([]int{3, 7}))
	for place := range all {
		l := with(all, place, wrong)
		s, h, r, z := state(n, l[:n+n*n]...), l[n+n*n:len(l)-2], l[len(l)-2], l[len(l)-1]
		asMeasured(t, s, h, r, z)
		got, news, _ := root.Update(s, h, r, z)
		inX, inH, inR, inZ := place < n, n+n*n <= place && place < len(l)-2, place == len(l)-2, place == len(l)-1
		// What is wrong in a column makes that column Bad, and those that come behind it; what is above the diagonal stays.
		upto := (place - n) % n
		switch {
		case inX || inZ:
			upto = -1
		case inH || inR:
			upto = n
		}
		var triangle []bool
		for i := range n {
			for k := range n {
				triangle = append(triangle, k <= i && k <= upto || k > i && s.S.L[i*n+k] == bad)
			}
		}
		like(t, "what is Bad of X", whichBad(got.X, bad), slices.Repeat([]bool{true}, n))
		like(t, "what is Bad of S", whichBad(got.S.L, bad), triangle)
		if (news.Surprise == bad) != (inX || inH || inZ) || (news.Spread == bad) != (!inX && !inZ) {
			t.Error("Update, wrong at", place, "has the news", news)
		}
	}
}

// wrongs goes through all states with one number that is wrong; New takes over what it is handed, but above the diagonal.
func wrongs[T number[T]](t *testing.T, bad T, wrongs ...T) {
	for n := 1; n <= api.MaxState; n++ {
		for _, wrong := range append(wrongs, bad) {
			wrongTick(t, n, bad, wrong)
			wrongMeasure(t, n, bad, wrong)
			x, s := vec.Whole[T](counted(n)), wholes[T](n, counted(n*n)...)
			for place := range n {
				told(t, "New", begun(with(x, place, wrong), s))(root.New(with(x, place, wrong), s))
			}
			for place := range n * n {
				s := of(n, with(s.L, place, wrong)...)
				told(t, "New", begun(x, s))(root.New(x, s))
				covers(t, root.State[T]{X: x, S: s}, covered(root.State[T]{X: x, S: s})...)
			}
		}
	}
}

// P10.1: numbers that are Bad, or may not be, in a state, a tick and a measurement: true is told, and what comes of them is
// Bad.
func TestWrong(t *testing.T) {
	wrongs(t, badFraction, fraction{N: 1, D: 2, Bad: true}, fraction{}, fraction{N: 2, D: 4}, fraction{N: 1, D: -2}, fraction{N: top + 1, D: 1}, fraction{N: math.MinInt, D: math.MinInt})
	wrongs(t, badNum, num{V: one, Low: one, High: one, Bad: true}, num{V: one, Low: 2 * one, High: one}, num{V: 3, Low: 1, High: 2}, num{V: api.Max + 1, Low: api.Max + 1, High: api.Max + 1}, num{V: math.MinInt, Low: math.MinInt, High: math.MaxInt})
}

// P10.1: what is handed in does not change, the room behind its end included; no list of an answer shares memory with it, or
// with another list.
func TestMemory(t *testing.T) {
	for n := 1; n <= api.MaxState; n++ {
		in := vec.Whole[fraction](mixed(n, 200, 3))
		was := slices.Clone(in)
		x, h, r, z := in[:n], in[20:20+n], frac.New(1, 1), frac.New(2, 1)
		m := func(from int) mat.Mat[fraction] { return mat.Mat[fraction]{Rows: n, Cols: n, L: in[from : from+n*n]} }
		s := root.State[fraction]{X: x, S: m(40)}
		update := func(h []fraction) (root.State[fraction], bool) {
			s, _, is := root.Update(s, h, r, z)
			return s, is
		}
		calls := []func() (root.State[fraction], bool){
			func() (root.State[fraction], bool) { return root.New(x, m(40)) },
			func() (root.State[fraction], bool) { return root.Predict(s, m(60), m(80)) },
			func() (root.State[fraction], bool) { return root.Predict(s, m(40), m(40)) },
			func() (root.State[fraction], bool) { return root.Predict(s, unit[fraction](n), noughts[fraction](n)) },
			func() (root.State[fraction], bool) { return update(h) },
			func() (root.State[fraction], bool) { return update(x) },
			func() (root.State[fraction], bool) { return update(m(40).L[:n]) },
			func() (root.State[fraction], bool) { return update(noughts[fraction](n).L[:n]) },
		}
		for i, call := range calls {
			first, is := call()
			second, isToo := call()
			if !is || !isToo || !second.Right() {
				t.Error("no answer of call", i)
			}
			all, l := numbers(first), slices.Clone(first.S.L)
			spoil(first.X)
			like(t, "S beside an X that has changed", first.S.L, l)
			spoil(first.S.L)
			like(t, "an answer beside another one that has changed", numbers(second), all)
			like(t, "what was handed in", in, was)
			third, _ := call()
			like(t, "a later answer", numbers(third), all)
		}
		first, second := s.Cover(), s.Cover()
		spoil(first.L)
		like(t, "a Cover beside another one that has changed", second.L, covered(s))
		like(t, "what was handed in", in, was)
	}
}

// spoil writes over a row, and over the room behind its end.
func spoil(l []fraction) {
	l = l[:cap(l)]
	for i := range l {
		l[i] = fraction{N: 77, D: 1}
	}
}
