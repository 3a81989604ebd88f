// Package wide is layer 1: products and roots of two words: see shared/doc/01-wide.md.
package wide

import (
	"cmp"
	"math/bits"

	"couplet/api"
)

// words is a number of two words, the high one first; it is never below 0.
type words [2]uint64

// rootBits is how many bits the root of a product of two numbers has at most:
// each number has no more, so neither has the root between them.
const rootBits = 62

// Right tells whether a number may be.
func Right(n int) bool {
	return -api.MaxWide <= n && n <= api.MaxWide
}

// MulDiv is a product, divided, and rounded.
func MulDiv(a, b, c, mode int) (int, bool) {
	if !Right(a) || !Right(b) || !Right(c) || c == 0 || !isMode(mode) {
		return 0, false
	}
	p, by := product(a, b), size(c)
	// A quotient of more than one word is too great, and the library panics at it.
	if p[0] >= by {
		return 0, false
	}
	quotient, rest := bits.Div64(p[0], p[1], by)
	below := sign(a)*sign(b)*sign(c) < 0
	return rounded(quotient, rest, by, below, mode)
}

// Compare tells which of two products is the greater one.
func Compare(a, b, c, d int) int {
	if !Right(a) || !Right(b) || !Right(c) || !Right(d) {
		return 0
	}
	left, right := sign(a)*sign(b), sign(c)*sign(d)
	if left != right {
		return cmp.Compare(left, right)
	}
	// Below 0 the greater size is the lesser number.
	return left * order(product(a, b), product(c, d))
}

// Root is the square root of a product, rounded.
func Root(a, b, mode int) (int, bool) {
	if !Right(a) || !Right(b) || sign(a)*sign(b) < 0 || !isMode(mode) {
		return 0, false
	}
	p := product(a, b)
	root := floorRoot(p)
	// The rest is at most twice the root, so the low words tell it, wrapped round or not.
	rest := p[1] - times(root, root)[1]
	// No rest is just half way to the next square, and the rest is beyond
	// half way to it just where that root is the nearer one.
	return rounded(root, rest, 2*root+1, false, mode)
}

func isMode(mode int) bool {
	return mode == api.Even || mode == api.Down || mode == api.Up
}

func sign(n int) int {
	return cmp.Compare(n, 0)
}

func size(n int) uint64 {
	if n < 0 {
		return uint64(-n)
	}
	return uint64(n)
}

func times(a, b uint64) words {
	high, low := bits.Mul64(a, b)
	return words{high, low}
}

// product is the size of a times b.
func product(a, b int) words {
	return times(size(a), size(b))
}

func order(a, b words) int {
	return cmp.Or(cmp.Compare(a[0], b[0]), cmp.Compare(a[1], b[1]))
}

// floorRoot is the greatest number whose square is not above p.
func floorRoot(p words) uint64 {
	var root uint64
	for i := range rootBits {
		more := root | 1<<(rootBits-1-i)
		if order(times(more, more), p) <= 0 {
			root = more
		}
	}
	return root
}

// rounded is the number of a size that was cut off, with rest of gap parts left on the way to the next one.
func rounded(cut, rest, gap uint64, below bool, mode int) (int, bool) {
	// Asked ahead of the step too, as that could wrap round.
	if cut > api.MaxWide {
		return 0, false
	}
	if outward(cut, rest, gap, below, mode) {
		cut++
	}
	if cut > api.MaxWide {
		return 0, false
	}
	if below {
		return -int(cut), true
	}
	return int(cut), true
}

// outward tells whether rounding goes to the next size, away from 0.
func outward(cut, rest, gap uint64, below bool, mode int) bool {
	switch mode {
	case api.Down:
		return below && rest > 0
	case api.Up:
		return !below && rest > 0
	}
	half := cmp.Compare(2*rest, gap)
	return half > 0 || half == 0 && cut%2 == 1
}
