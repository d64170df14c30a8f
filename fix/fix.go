// Package fix is layer 1, numbers in fixed point that don't go round: see shared/doc/01-fix.md.
package fix

import (
	"ricochet/api"
)

const (
	least = -api.MostFix - 1
	// A shift to the right rounds down below 0 too, where a division would round towards 0.
	oneShift  = 16
	partShift = 8
	// The root of the greatest number is below 2^24 65536ths.
	topRootBit = 1 << 23
)

// Hold answers x, or the nearest number if x lies outside of all of them.
func Hold(x int64) api.Fix {
	if x < least {
		return least
	}
	if x > api.MostFix {
		return api.MostFix
	}
	return api.Fix(x)
}

// held answers what is handed in, held, in 64 bits: these have room for
// whatever two numbers of 32 bits make of one another.
func held(a api.Fix) int64 {
	return int64(Hold(int64(a)))
}

// Of answers the whole number n.
func Of(n int) api.Fix {
	// Held first, so that the product can't go round.
	return Hold(int64(Hold(int64(n))) * api.One)
}

// Add answers the sum.
func Add(a, b api.Fix) api.Fix {
	return Hold(held(a) + held(b))
}

// Sub answers the difference.
func Sub(a, b api.Fix) api.Fix {
	return Hold(held(a) - held(b))
}

// Mul answers the product, rounded down.
func Mul(a, b api.Fix) api.Fix {
	return Hold(held(a) * held(b) >> oneShift)
}

// Div answers the quotient, rounded down; of what is divided by 0, the
// outermost number on its side of 0.
func Div(a, b api.Fix) api.Fix {
	if b == 0 {
		return outermost(a)
	}
	return Hold(divideDown(held(a)*api.One, held(b)))
}

// outermost answers the end of the numbers that lies on a's side of 0, and 0 of 0.
func outermost(a api.Fix) api.Fix {
	if a > 0 {
		return api.MostFix
	}
	if a < 0 {
		return least
	}
	return 0
}

// divideDown answers n / d, rounded down: Go's own division rounds towards 0.
func divideDown(n, d int64) int64 {
	q := n / d
	if n%d != 0 && (n < 0) != (d < 0) {
		q--
	}
	return q
}

// Sqrt answers the root, rounded down; 0 of what is below 0.
func Sqrt(a api.Fix) api.Fix {
	if a <= 0 {
		return 0
	}
	return api.Fix(rootDown(held(a) * api.One))
}

// rootDown answers the greatest whole number whose square isn't above n. It
// goes by whole numbers, bit by bit, since a float's root may round up.
func rootDown(n int64) int64 {
	root := int64(0)
	for bit := int64(topRootBit); bit > 0; bit >>= 1 {
		if more := root + bit; more*more <= n {
			root = more
		}
	}
	return root
}

// Floor answers the greatest whole number that isn't above a.
func Floor(a api.Fix) int {
	return int(held(a) >> oneShift)
}

// Between answers the place that lies part 256ths of the way from a to b,
// rounded down.
func Between(a, b api.Fix, part uint8) api.Fix {
	from := held(a)
	// The way itself isn't held: from end to end it is longer than a number may be.
	way := held(b) - from
	return Hold(from + way*int64(part)>>partShift)
}
