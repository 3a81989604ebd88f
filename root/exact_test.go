package root_test

import (
	"math"
	"math/big"
	"slices"
	"testing"

	"couplet/api"
	"couplet/env"
	"couplet/frac"
	"couplet/joseph"
	"couplet/mat"
	"couplet/root"
	"couplet/tri"
	"couplet/vec"
)

// triangular asks that S is a triangle.
func triangular[T number[T]](t *testing.T, name string, s root.State[T]) {
	t.Helper()
	if !s.Right() || !tri.Is(s.S, nought[T]) {
		t.Error(name, "has no triangle:", s.S)
	}
}

// alwaysTriangle goes on of any numbers; New and Predict make a triangle of what is none, and Update leaves it one.
func alwaysTriangle[T number[T]](t *testing.T, n, seed int, third T) {
	all := func(part, count int) []T {
		return vec.Scale(vec.Whole[T](mixed(seed*100+n*10+part, count, 5)), third)
	}
	none := state(n, all(1, n+n*n)...)
	f, g, h := of(n, all(2, n*n)...), of(n, all(3, n*n)...), all(4, n)
	s, _ := root.New(none.X, none.S)
	triangular(t, "New", s)
	p, _ := root.Predict(none, f, g)
	triangular(t, "Predict", p)
	for range 3 {
		s, _, _ = root.Update(s, h, third, third)
		triangular(t, "Update", s)
		s, _ = root.Predict(s, f, g)
		triangular(t, "Predict", s)
	}
}

// P10.2: S stays a triangle, whatever the numbers are, Bad ones too.
func TestTriangle(t *testing.T) {
	for n := 1; n <= api.MaxState; n++ {
		for seed := range 30 {
			alwaysTriangle(t, n, seed, frac.New(1, 3))
			alwaysTriangle(t, n, seed, badFraction)
			alwaysTriangle(t, n, seed, env.Point(one).Div(env.Point(3*one)))
			alwaysTriangle(t, n, seed, num{V: one / 5, Low: one/5 - 300, High: one/5 + 40})
			alwaysTriangle(t, n, seed, badNum)
		}
	}
}

// chain is a row w, the last number first, so that r, and w's squares added one by one, have roots of their quotients and
// their products.
func chain(seed int) (w [4]int, r int) {
	switch seed % 4 {
	case 0:
		return [4]int{4, 12, 84, 132}, 9
	case 1:
		return [4]int{6, -8, 24, 0}, 0
	case 2:
		return [4]int{0, -15, 0, 144}, 64
	}
	// Of these all is exact of units, too: from 3 to 12, to 48, to 192, and to 768.
	return [4]int{3, 6, -12, 24}, 3
}

// measuring is a triangle of whole numbers, 1 or -1 on its diagonal, and a row h by which its w are the chain's.
func measuring(seed, n int, w [4]int) (s, h []int) {
	s, h = mixed(seed+n*9, n*n, 3), make([]int, n)
	for j := n - 1; j >= 0; j-- {
		clear(s[j*n+j+1 : (j+1)*n])
		s[j*n+j] = 1 - 2*((seed+j)%2)
		h[j] = w[n-1-j]
		for i := j + 1; i < n; i++ {
			h[j] -= s[i*n+j] * h[i]
		}
		h[j] *= s[j*n+j]
	}
	return s, h
}

// exactOne is one whose r is 3, as numbers: those of X, of S, and h.
func exactOne[T vec.Field[T]](seed, n int) (x, s, h []T) {
	w, _ := chain(3)
	triangle, by := measuring(seed, n, w)
	return vec.Whole[T](mixed(seed, n, 9)), vec.Whole[T](triangle), vec.Whole[T](by)
}

// asJoseph holds a state against what layer 9 tells; false, if numbers of either one's covariance are Bad.
func asJoseph[T number[T]](t *testing.T, bad T, got root.State[T], want joseph.State[T]) bool {
	t.Helper()
	triangular(t, "the lane of triangles", got)
	if !slices.Contains(want.X, bad) {
		like(t, "X", got.X, want.X)
	}
	cover := got.Cover()
	if slices.Contains(slices.Concat(want.P.L, cover.L), bad) {
		return false
	}
	like(t, "Cover", cover.L, want.P.L)
	return true
}

// whole is a state of joseph's, of the same numbers.
func whole[T vec.Field[T]](s root.State[T]) joseph.State[T] {
	return joseph.State[T]{X: s.X, P: s.Cover()}
}

// measuresAsJoseph holds an Update against layer 9's.
func measuresAsJoseph[T number[T]](t *testing.T, bad T, seed, n int) bool {
	t.Helper()
	w, r := chain(seed)
	l, by := measuring(seed, n, w)
	h, noise, z := vec.Whole[T](by), bad.Of(r), bad.Of(seed-20)
	s, _ := root.New(vec.Whole[T](mixed(seed, n, 9)), wholes[T](n, l...))
	got, news, is := root.Update(s, h, noise, z)
	want, newsToo, isToo := joseph.Update(whole(s), h, noise, z)
	if !is || !isToo || news != newsToo || news.Spread == bad || news.Surprise == bad {
		t.Error("the news are", news, is, "and", newsToo, isToo)
	}
	return asJoseph(t, bad, got, want)
}

// P10.2: where numbers are exact, what a measurement leaves is what layer 9 tells.
func TestUpdateAsJoseph(t *testing.T) {
	for n := 1; n <= api.MaxState; n++ {
		fine := [4]int{}
		for seed := range 200 {
			if measuresAsJoseph(t, badFraction, seed, n) {
				fine[seed%4]++
			}
			if seed%4 == 3 && !measuresAsJoseph(t, badNum, seed, n) {
				t.Error("of", n, "numbers there are Bad ones of units")
			}
		}
		// Without noise a number of S is Bad; of four numbers most of the others' squares are beyond what a fraction may be.
		if n <= 3 && (fine[0] < 50 || fine[2] < 50) || fine[1] != 0 || fine[3] < 50 {
			t.Error("of", n, "numbers so many are fine:", fine)
		}
	}
}

// spun is a matrix, two columns of which are spun by 3, 4 and 5, or by 5, 12 and 13: it times itself, turned, stays.
func spun(a mat.Mat[fraction], i, k int) mat.Mat[fraction] {
	c, s := frac.New(3, 5), frac.New(-4, 5)
	if (i+k)%2 == 0 {
		c, s = frac.New(-5, 13), frac.New(12, 13)
	}
	l := slices.Clone(a.L)
	for row := range a.Rows {
		x, y := a.At(row, i), a.At(row, k)
		l[row*a.Cols+i], l[row*a.Cols+k] = x.Mul(c).Add(y.Mul(s)), y.Mul(c).Sub(x.Mul(s))
	}
	return of(a.Rows, l...)
}

// ticking is a state, f and g, so that what these fold to is known, and of fractions.
func ticking(seed, n int) (s root.State[fraction], f, g, want mat.Mat[fraction]) {
	triangle := wholes[fraction](n, lower(seed, n, 3)...)
	s, _ = root.New(vec.Whole[fraction](mixed(seed, n, 9)), wholes[fraction](n, lower(seed+7, n, 2)...))
	// f times S is the triangle, spun: what of f S makes so is told number by number, row by row, from the last one on.
	to := triangle
	if n > 1 {
		to = spun(triangle, seed%(n-1), n-1)
	}
	f = wholes[fraction](n, make([]int, n*n)...)
	for i := range n {
		for k := n - 1; k >= 0; k-- {
			f.L[i*n+k] = to.At(i, k).Sub(vec.Dot(f.Row(i), s.S.Col(k))).Div(s.S.At(k, k))
		}
	}
	// Beside each of the triangle's columns stands as much of it as makes a whole column of both.
	g, want = wholes[fraction](n, make([]int, n*n)...), wholes[fraction](n, make([]int, n*n)...)
	by := fractions(4, 3, 0, 1, -3, 4, 12, 5)
	full := fractions(5, 3, 1, 1, 5, 4, 13, 5)
	for i := range n {
		for k := range n {
			g.L[i*n+(k+seed)%n] = triangle.At(i, k).Mul(by[(k+seed)%4])
			want.L[i*n+k] = triangle.At(i, k).Mul(full[(k+seed)%4])
		}
	}
	return s, f, g, want
}

// P10.2: where numbers are exact, so is what a tick leaves.
func TestPredictAsJoseph(t *testing.T) {
	for n := 1; n <= api.MaxState; n++ {
		fine := 0
		for seed := range 100 {
			s, f, g, want := ticking(seed, n)
			got, is := root.Predict(s, f, g)
			if slices.Contains(got.S.L, badFraction) {
				continue
			}
			told(t, "Predict", root.State[fraction]{X: got.X, S: want})(got, is)
			to, _ := joseph.Predict(whole(s), f, g)
			if asJoseph(t, badFraction, got, to) {
				fine++
			}
		}
		if fine < 90 {
			t.Error("of", n, "numbers so few are fine:", fine)
		}
	}
}

// exact is a filter of exact numbers, of any size; it is neither Carlson's form nor Joseph's.
type exact struct {
	x []*big.Rat
	p [][]*big.Rat
}

// rats are n by d of each of l.
func rats(d int, l ...int) []*big.Rat {
	var all []*big.Rat
	for _, n := range l {
		all = append(all, big.NewRat(int64(n), int64(d)))
	}
	return all
}

func ratDot(a, b []*big.Rat) *big.Rat {
	sum := new(big.Rat)
	for i := range a {
		sum.Add(sum, new(big.Rat).Mul(a[i], b[i]))
	}
	return sum
}

// from is an exact state of a triangle.
func from(x []*big.Rat, s [][]*big.Rat) exact {
	e := exact{x: x}
	for _, row := range s {
		var l []*big.Rat
		for _, other := range s {
			l = append(l, ratDot(row, other))
		}
		e.p = append(e.p, l)
	}
	return e
}

// tick is one tick on: each number of the covariance is told by sums of products of two.
func (e exact) tick(f, g [][]*big.Rat) exact {
	noise := from(nil, g)
	var to exact
	for i := range f {
		to.x = append(to.x, ratDot(f[i], e.x))
		var row []*big.Rat
		for k := range f {
			var by []*big.Rat
			for _, was := range e.p {
				by = append(by, ratDot(f[k], was))
			}
			row = append(row, new(big.Rat).Add(ratDot(f[i], by), noise.p[i][k]))
		}
		to.p = append(to.p, row)
	}
	return to
}

// take is a measurement; it tells the surprise and the spread, too.
func (e exact) take(h []*big.Rat, r, z *big.Rat) (to exact, surprise, spread *big.Rat) {
	var u []*big.Rat
	for _, row := range e.p {
		u = append(u, ratDot(h, row))
	}
	spread = new(big.Rat).Add(ratDot(h, u), r)
	surprise = new(big.Rat).Sub(z, ratDot(h, e.x))
	for i := range u {
		k := new(big.Rat).Quo(u[i], spread)
		to.x = append(to.x, new(big.Rat).Add(e.x[i], new(big.Rat).Mul(k, surprise)))
		var row []*big.Rat
		for j := range u {
			row = append(row, new(big.Rat).Sub(e.p[i][j], new(big.Rat).Mul(k, u[j])))
		}
		to.p = append(to.p, row)
	}
	return to, surprise, spread
}

// encloses asks that each number that is not Bad encloses the exact one, and tells how wide the widest one is; none is as
// wide as one that is Bad.
func encloses(t *testing.T, name string, l []num, exact []*big.Rat) int {
	t.Helper()
	if len(l) != len(exact) {
		t.Fatal(name, "has", len(l), "numbers, not", len(exact))
	}
	wide := 0
	for i, x := range exact {
		units := new(big.Rat).Mul(x, big.NewRat(one, 1))
		if l[i].Bad {
			wide = math.MaxInt
			continue
		}
		if units.Cmp(big.NewRat(int64(l[i].Low), 1)) < 0 || units.Cmp(big.NewRat(int64(l[i].High), 1)) > 0 {
			t.Error(name, "has", l[i], "and exactly, in units,", units.FloatString(3))
		}
		wide = max(wide, l[i].High-l[i].Low)
	}
	return wide
}

// enclosed asks that a state encloses the exact one.
func (e exact) enclosed(t *testing.T, name string, s root.State[num]) int {
	t.Helper()
	triangular(t, name, s)
	wide := encloses(t, name+", X,", s.X, e.x)
	return max(wide, encloses(t, name+", Cover,", s.Cover().L, slices.Concat(e.p...)))
}

// given is a number that is handed in, and what it encloses exactly: so many parts of one, of which there are as many.
type given struct {
	n     []num
	parts []int
}

// inOne is how many parts one has.
const inOne = 1 << 16

// points are whole numbers.
func points(l []int) given {
	to := given{n: vec.Whole[num](l)}
	for _, n := range l {
		to.parts = append(to.parts, n*inOne)
	}
	return to
}

// bounded are whole numbers with bounds: what is exact is at one of their ends, by turns, or between them; 0 stays alone.
func bounded(seed int) func(l []int) given {
	return func(l []int) given {
		to := points(l)
		for i, n := range l {
			if n == 0 {
				continue
			}
			low, high := (i+seed)%3, (i+seed)%2+1
			to.n[i].Low -= low * (one / inOne)
			to.n[i].High += high * (one / inOne)
			to.parts[i] += []int{-low, high, 0}[(i*seed+seed/3)%3]
		}
		return to
	}
}

func (g given) exact() []*big.Rat { return rats(inOne, g.parts...) }

// steps goes on of numbers, and asks behind each step that what is told encloses the exact filter's, and meets what layer 9
// tells; it tells how wide that is behind each measurement.
func steps(t *testing.T, n, seed, turns int, give func(l []int) given) []int {
	x, triangle := give(mixed(seed+n*40, n, 9)), give(lower(seed+n*50, n, 2))
	s, _ := root.New(x.n, of(n, triangle.n...))
	j, _ := joseph.New(x.n, of(n, triangle.n...))
	e := from(x.exact(), rows(n, triangle.exact()))
	e.enclosed(t, "New", s)
	f := make([]int, n*n)
	for i := range n {
		f[i*n+i] = 1
		if i+1 < n {
			f[i*n+i+1] = 1 - 2*(seed%2)
		}
	}
	var wide []int
	for turn := range turns {
		tick, noise := give(f), give(lower(seed+turn*7, n, 1))
		h, rz := give(mixed(seed+turn*9+n, n, 2)), give([]int{1 + (seed+turn)%5, seed - 10 + turn*3})
		s, _ = root.Predict(s, of(n, tick.n...), of(n, noise.n...))
		j, _ = joseph.Predict(j, of(n, tick.n...), of(n, noise.n...))
		e = e.tick(rows(n, tick.exact()), rows(n, noise.exact()))
		e.enclosed(t, "Predict", s)
		after, news, _ := root.Update(s, h.n, rz.n[0], rz.n[1])
		j, _, _ = joseph.Update(j, h.n, rz.n[0], rz.n[1])
		to, surprise, spread := e.take(h.exact(), rz.exact()[0], rz.exact()[1])
		encloses(t, "the news", []num{news.Surprise, news.Spread}, []*big.Rat{surprise, spread})
		wide = append(wide, to.enclosed(t, "Update", after))
		meets(t, after, j)
		s, e = after, to
	}
	return wide
}

// meets asks that both lanes tell of each number what there may be, as long as neither one is Bad.
func meets(t *testing.T, s root.State[num], j joseph.State[num]) {
	t.Helper()
	p := slices.Concat(j.X, j.P.L)
	for i, x := range slices.Concat(s.X, s.Cover().L) {
		if !x.Bad && !p[i].Bad && !env.Meet(x, p[i]) {
			t.Error("both lanes are apart at", i, "by", x, "and", p[i])
		}
	}
}

// P10.2: of whole numbers, step by step, what is told of enclosed ones encloses the exact filter's, and not too widely, as
// long as the steps are few.
func TestEnclosed(t *testing.T) {
	for n := 1; n <= api.MaxState; n++ {
		for seed := range 25 {
			wide := steps(t, n, seed, 4, points)
			if wide[0] > 1<<13 || wide[1] > 1<<20 || n == 1 && wide[3] > 1<<12 {
				t.Error("of", n, "numbers states are so wide:", wide)
			}
		}
	}
}

// P10.2: of numbers with bounds the same, whatever they enclose.
func TestEnclosedAtEnds(t *testing.T) {
	for n := 1; n <= api.MaxState; n++ {
		for seed := range 40 {
			wide := steps(t, n, seed, 2, bounded(seed))
			if wide[0] > one {
				t.Error("of", n, "numbers states are so wide:", wide)
			}
		}
	}
}
