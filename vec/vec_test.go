package vec

import (
	"math"
	"math/big"
	"testing"

	"ricochet/api"
	"ricochet/fix"
)

const (
	one      = api.Fix(api.One)
	most     = api.Fix(api.MostFix)
	lowest   = api.Fix(-api.MostFix - 1)
	limit    = api.Fix(api.Limit)
	farAbove = api.Fix(math.MaxInt64)
	farBelow = api.Fix(math.MinInt64)
)

func at(x, y api.Fix) api.Vec { return api.Vec{X: x, Y: y} }

// numbers are those that places are made of in what follows, also from
// outside of what a number may be.
func numbers() []api.Fix {
	up := []api.Fix{
		0, 1, 2, 3, 4, 255, 256, 257, 46340, 46341, 65535, 65536, 65537, 3 * one, 4 * one,
		limit - 1, limit, limit + 1, 1518500249, 1518500250, 1 << 30, most - 1, most,
		most + 1, most + 2, 1<<32 + 5, 1 << 47, farAbove,
	}
	all := []api.Fix{farBelow}
	for _, a := range up {
		all = append(all, a, -a)
	}
	return all
}

// places are all pairs of numbers.
func places() []api.Vec {
	var all []api.Vec
	for _, x := range numbers() {
		for _, y := range numbers() {
			all = append(all, at(x, y))
		}
	}
	return all
}

// partners are places that the calls of two take beside each place.
func partners() []api.Vec {
	all := []api.Vec{
		{}, at(1, -1), at(-1, 1), at(one, 2*one), at(-3*one, 4*one), at(limit, -limit),
		at(most, lowest), at(lowest, most), at(lowest, lowest), at(most, most),
		at(farAbove, farBelow), at(farBelow, farAbove), at(0, most), at(most, 0),
	}
	// A fixed rule in place of chance: the same places at every run.
	n := uint64(1)
	next := func() uint64 {
		n = n*6364136223846793005 + 1442695040888963407
		return n >> 32
	}
	for range 20 {
		all = append(all, at(api.Fix(int32(next())), api.Fix(int32(next())>>9)))
	}
	return all
}

func TestAddSub(t *testing.T) {
	cases := []struct{ a, b, sum, difference api.Vec }{
		{at(1, 2), at(3, -4), at(4, -2), at(-2, 6)},
		{at(0, 0), at(0, 0), at(0, 0), at(0, 0)},
		{at(one, -one), at(0, 5), at(one, 5-one), at(one, -one-5)},
		{at(most, 0), at(1, 0), at(most, 0), at(most-1, 0)},
		{at(0, lowest), at(0, -1), at(0, lowest), at(0, lowest+1)},
		{at(lowest, most), at(1, 1), at(lowest+1, most), at(lowest, most-1)},
		{at(0, -1), at(lowest, lowest), at(lowest, lowest), at(most, most)},
		{at(farAbove, farBelow), at(-1, 1), at(most-1, lowest+1), at(most, lowest)},
		{at(farBelow, farAbove), at(farAbove, farBelow), at(-1, -1), at(lowest, most)},
	}
	for _, c := range cases {
		if got := Add(c.a, c.b); got != c.sum {
			t.Errorf("Add(%v, %v) = %v, want %v", c.a, c.b, got, c.sum)
		}
		if got := Sub(c.a, c.b); got != c.difference {
			t.Errorf("Sub(%v, %v) = %v, want %v", c.a, c.b, got, c.difference)
		}
	}
}

func TestScale(t *testing.T) {
	cases := []struct {
		a    api.Vec
		k    api.Fix
		want api.Vec
	}{
		{at(one, -2*one), 2 * one, at(2*one, -4*one)},
		{at(7, -9), one, at(7, -9)},
		{at(7, -9), -one, at(-7, 9)},
		{at(7, -9), 0, at(0, 0)},
		{at(3, -3), one / 2, at(1, -2)},
		{at(1, -1), 1, at(0, -1)},
		{at(1, -1), -1, at(-1, 0)},
		{at(most, lowest), 2 * one, at(most, lowest)},
		{at(most, lowest), -one, at(-most, most)},
		{at(farAbove, farBelow), one / 2, at(most>>1, lowest/2)},
		{at(1, -1), farAbove, at(32767, -32768)},
		{at(1, -1), farBelow, at(-32768, 32768)},
	}
	for _, c := range cases {
		if got := Scale(c.a, c.k); got != c.want {
			t.Errorf("Scale(%v, %d) = %v, want %v", c.a, c.k, got, c.want)
		}
	}
}

func TestDot(t *testing.T) {
	cases := []struct {
		a, b api.Vec
		want api.Fix
	}{
		{at(one, 2*one), at(3*one, 4*one), 11 * one},
		{at(one, 2*one), at(-2*one, one), 0},
		{at(0, 0), at(most, lowest), 0},
		// Each product is rounded down by itself, not their sum.
		{at(1, 1), at(one/2, one/2), 0},
		{at(-1, -1), at(one/2, one/2), -2},
		{at(-1, 1), at(1, 1), -1},
		// Each product is held by itself, and so is their sum.
		{at(most, most), at(most, -one), most - most},
		{at(most, one), at(one, one), most},
		{at(most, -one), at(2*one, one), most - one},
		{at(lowest, one), at(2*one, one), lowest + one},
		{at(lowest, -one), at(one, one), lowest},
		{at(most, lowest), at(most, most), -1},
		{at(farAbove, 0), at(one, 0), most},
		{at(0, farBelow), at(0, one), lowest},
		{at(0, one/2), at(0, farAbove), most >> 1},
		{at(farAbove, farBelow), at(farAbove, farAbove), -1},
	}
	for _, c := range cases {
		if got := Dot(c.a, c.b); got != c.want {
			t.Errorf("Dot(%v, %v) = %d, want %d", c.a, c.b, got, c.want)
		}
	}
}

func TestLength(t *testing.T) {
	cases := []struct {
		a    api.Vec
		want api.Fix
	}{
		{at(3*one, 4*one), 5 * one}, {at(-3*one, 4*one), 5 * one}, {at(3*one, -4*one), 5 * one},
		{at(0, 0), 0}, {at(3, 4), 5}, {at(-3, -4), 5}, {at(7, 0), 7}, {at(0, -7), 7},
		// Rounding ahead of the root would make nothing of these.
		{at(1, 0), 1}, {at(0, -1), 1}, {at(1, 1), 1}, {at(2, 2), 2}, {at(5, 5), 7}, {at(100, 100), 141},
		{at(one, one), 92681},
		// Rounded down, close to the next number.
		{at(1, most-1), most - 1}, {at(46340, 46340), 65534}, {at(46341, 46341), 65536},
		{at(65535, 362), 65535}, {at(65535, 363), 65536}, {at(65535, 361), 65535},
		// The greatest length that isn't held, and those beyond.
		{at(1518500249, 1518500249), most - 1}, {at(1518500250, 1518500249), most},
		{at(1518500250, 1518500250), most},
		{at(most, 0), most}, {at(0, most), most}, {at(most, 1), most}, {at(most, most), most},
		{at(lowest, 0), most}, {at(0, lowest), most}, {at(lowest+1, 0), most}, {at(lowest, lowest), most},
		{at(lowest, most), most}, {at(most-1, 65535), most - 1}, {at(most-1, 65536), most},
		{at(farAbove, 0), most}, {at(0, farBelow), most}, {at(farAbove, farBelow), most},
		{at(farBelow, farBelow), most}, {at(1<<32, 0), most}, {at(1<<32, 1<<32), most}, {at(-1<<40, 3), most},
	}
	for _, c := range cases {
		if got := Length(c.a); got != c.want {
			t.Errorf("Length(%v) = %d, want %d", c.a, got, c.want)
		}
	}
}

// heldBig is the number that a is held at, without bounds from there on.
func heldBig(a api.Fix) *big.Int {
	return big.NewInt(min(max(int64(a), int64(lowest)), int64(most)))
}

// lengthBig is Length, reckoned without bounds.
func lengthBig(a api.Vec) api.Fix {
	x, y := heldBig(a.X), heldBig(a.Y)
	sum := new(big.Int).Add(x.Mul(x, x), y.Mul(y, y))
	return api.Fix(min(sum.Sqrt(sum).Int64(), int64(most)))
}

func TestLengthAgainstExact(t *testing.T) {
	for _, a := range append(places(), partners()...) {
		if got, want := Length(a), lengthBig(a); got != want {
			t.Errorf("Length(%v) = %d, want %d", a, got, want)
		}
	}
}

func TestBetween(t *testing.T) {
	cases := []struct {
		a, b api.Vec
		part uint8
		want api.Vec
	}{
		{at(0, 2*one), at(2*one, 0), 128, at(one, one)},
		{at(7, -900), at(900, 7), 0, at(7, -900)},
		{at(0, 256), at(256, 0), 255, at(255, 1)},
		{at(0, 256), at(256, 0), 1, at(1, 255)},
		{at(5, 5), at(5, 5), 200, at(5, 5)},
		{at(0, 1), at(1, 0), 255, at(0, 0)},
		{at(0, 0), at(1, -1), 1, at(0, -1)},
		{at(lowest, most), at(most, lowest), 0, at(lowest, most)},
		{at(lowest, most), at(most, lowest), 255, at(2130706431, -2130706433)},
		{at(farAbove, farBelow), at(0, 0), 0, at(most, lowest)},
		{at(0, 0), at(farAbove, farBelow), 128, at(most>>1, lowest/2)},
	}
	for _, c := range cases {
		if got := Between(c.a, c.b, c.part); got != c.want {
			t.Errorf("Between(%v, %v, %d) = %v, want %v", c.a, c.b, c.part, got, c.want)
		}
	}
}

func TestFormed(t *testing.T) {
	cases := []struct {
		a    api.Vec
		want bool
	}{
		{at(0, 0), true}, {at(one, -one), true},
		{at(limit, limit), true}, {at(-limit, -limit), true}, {at(limit, -limit), true}, {at(-limit, limit), true},
		{at(limit+1, 0), false}, {at(0, limit+1), false}, {at(-limit-1, 0), false}, {at(0, -limit-1), false},
		{at(limit, limit+1), false}, {at(limit+1, limit), false},
		{at(-limit, -limit-1), false}, {at(-limit-1, -limit), false}, {at(limit+1, -limit-1), false},
		{at(most, 0), false}, {at(0, lowest), false},
		{at(farAbove, 0), false}, {at(farBelow, 0), false}, {at(0, farAbove), false}, {at(0, farBelow), false},
		{at(1<<32, 0), false}, {at(0, -1<<32), false}, {at(1<<32, 1<<33), false},
	}
	for _, c := range cases {
		if got := Formed(c.a); got != c.want {
			t.Errorf("Formed(%v) = %v, want %v", c.a, got, c.want)
		}
	}
}

// Each call goes number by number, as layer 1 says it.
func TestNumberByNumber(t *testing.T) {
	for _, a := range places() {
		for _, b := range partners() {
			if got, want := Add(a, b), at(fix.Add(a.X, b.X), fix.Add(a.Y, b.Y)); got != want {
				t.Errorf("Add(%v, %v) = %v, want %v", a, b, got, want)
			}
			if got, want := Sub(a, b), at(fix.Sub(a.X, b.X), fix.Sub(a.Y, b.Y)); got != want {
				t.Errorf("Sub(%v, %v) = %v, want %v", a, b, got, want)
			}
			if got, want := Scale(a, b.X), at(fix.Mul(a.X, b.X), fix.Mul(a.Y, b.X)); got != want {
				t.Errorf("Scale(%v, %d) = %v, want %v", a, b.X, got, want)
			}
			if got, want := Dot(a, b), fix.Add(fix.Mul(a.X, b.X), fix.Mul(a.Y, b.Y)); got != want {
				t.Errorf("Dot(%v, %v) = %d, want %d", a, b, got, want)
			}
			for _, part := range []uint8{0, 1, 127, 128, 255} {
				want := at(fix.Between(a.X, b.X, part), fix.Between(a.Y, b.Y, part))
				if got := Between(a, b, part); got != want {
					t.Errorf("Between(%v, %v, %d) = %v, want %v", a, b, part, got, want)
				}
			}
		}
	}
}

// No way is shorter than either of its numbers is great, as far as a length
// can tell: it is held too.
func TestNoWayIsShorterThanItsNumbers(t *testing.T) {
	for _, a := range append(places(), partners()...) {
		length := Length(a)
		for _, n := range []api.Fix{a.X, a.Y} {
			great := new(big.Int).Abs(heldBig(n)).Int64()
			if int64(length) < min(great, int64(most)) {
				t.Errorf("Length(%v) = %d, shorter than %d", a, length, great)
			}
		}
	}
}

// isHeld tells whether the exact sum of two numbers, or one of them, lies
// outside of what a number may be.
func isHeld(a, b api.Fix) bool {
	sum := new(big.Int).Add(big.NewInt(int64(a)), big.NewInt(int64(b)))
	for _, n := range []*big.Int{sum, big.NewInt(int64(a)), big.NewInt(int64(b))} {
		if n.Cmp(big.NewInt(int64(lowest))) < 0 || n.Cmp(big.NewInt(int64(most))) > 0 {
			return true
		}
	}
	return false
}

func TestAddedAndSubtractedLeadsBack(t *testing.T) {
	asked := 0
	for _, a := range places() {
		for _, b := range partners() {
			if isHeld(a.X, b.X) || isHeld(a.Y, b.Y) {
				continue
			}
			asked++
			if back := Sub(Add(a, b), b); back != a {
				t.Errorf("from %v by %v and back leads to %v", a, b, back)
			}
		}
	}
	if asked < 1000 {
		t.Errorf("only %d ways and places were tried", asked)
	}
}
