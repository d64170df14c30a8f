package box

import (
	"math"
	"math/big"
	"testing"

	"ricochet/api"
	"ricochet/fix"
)

const (
	one      = api.Fix(api.One)
	most     = api.Fix(api.MostFix)
	lowest   = api.Fix(-api.MostFix - 1)
	limit    = api.Fix(api.Limit)
	farAbove = api.Fix(math.MaxInt64)
	farBelow = api.Fix(math.MinInt64)
)

func at(x, y api.Fix) api.Vec { return api.Vec{X: x, Y: y} }

func corners(leastX, leastY, mostX, mostY api.Fix) Box {
	return Box{Least: at(leastX, leastY), Most: at(mostX, mostY)}
}

// unformed are boxes that may not be: one number too far, or turned about.
func unformed() []Box {
	return []Box{
		corners(1, 0, 0, 5), corners(0, 1, 5, 0), corners(1, 1, 0, 0), corners(5, -5, -5, 5),
		corners(-limit-1, -5, 5, 5), corners(-5, -limit-1, 5, 5),
		corners(-5, -5, limit+1, 5), corners(-5, -5, 5, limit+1),
		corners(limit+1, -5, limit+1, 5), corners(-5, -limit-1, 5, -limit-1),
		corners(limit+1, -5, limit+2, 5), corners(-5, limit+1, 5, limit+2),
		corners(lowest, lowest, most, most), corners(farBelow, farBelow, farAbove, farAbove),
		corners(farBelow, -5, 5, 5), corners(-5, -5, 5, farAbove),
		corners(-5, farAbove, 5, farBelow), corners(-1<<32, -5, 1<<32, 5), corners(-5, -1<<32, 5, 1<<32),
	}
}

// nowhere are places that may not be.
func nowhere() []api.Vec {
	return []api.Vec{
		at(limit+1, 0), at(0, limit+1), at(-limit-1, 0), at(0, -limit-1), at(limit+1, -limit-1),
		at(most, 0), at(0, lowest), at(farAbove, 0), at(farBelow, 0), at(0, farAbove), at(0, farBelow),
		at(1<<32, 0), at(0, -1<<32), at(1<<32, 1<<33), at(farBelow, farAbove),
	}
}

func everything() Box { return corners(-limit, -limit, limit, limit) }

func TestFormed(t *testing.T) {
	formed := []Box{
		{}, everything(), corners(0, 0, 1, 1), corners(3, -4, 3, 4), corners(-3, 4, 3, 4), corners(7, 7, 7, 7),
		corners(limit, limit, limit, limit), corners(-limit, -limit, -limit, -limit),
		corners(limit, -limit, limit, limit), corners(-limit, 0, limit, 0), corners(-5, -9, -4, -8),
	}
	for _, b := range formed {
		if !Formed(b) {
			t.Errorf("Formed(%v) = false", b)
		}
	}
	for _, b := range unformed() {
		if Formed(b) {
			t.Errorf("Formed(%v) = true", b)
		}
	}
}

func TestAround(t *testing.T) {
	cases := []struct {
		at   api.Vec
		half api.Fix
		want Box
	}{
		{at(4*one, 0), one, corners(3*one, -one, 5*one, one)},
		{at(7, -9), 0, corners(7, -9, 7, -9)},
		{at(7, -9), 1, corners(6, -10, 8, -8)},
		{at(7, -9), -1, corners(8, -8, 6, -10)},
		{at(1, 2), api.Half, corners(1-24576, 2-24576, 1+24576, 2+24576)},
		{at(limit, -limit), one, corners(limit-one, -limit-one, limit+one, -limit+one)},
		{at(most, lowest), 1, corners(most-1, lowest, most, lowest+1)},
		{at(0, 0), most, corners(-most, -most, most, most)},
		{at(0, -1), lowest, corners(most, most, lowest, lowest)},
		{at(1, -2), farAbove, corners(lowest+2, lowest, most, most-2)},
		{at(farAbove, farBelow), 5, corners(most-5, lowest, most, lowest+5)},
		{at(farBelow, farAbove), farBelow, corners(0, most, lowest, -1)},
	}
	for _, c := range cases {
		if got := Around(c.at, c.half); got != c.want {
			t.Errorf("Around(%v, %d) = %v, want %v", c.at, c.half, got, c.want)
		}
	}
}

func TestAroundIsByLayerOne(t *testing.T) {
	numbers := []api.Fix{0, 1, -1, one, -one, limit, -limit, most, lowest, most + 1, lowest - 1, farAbove, farBelow}
	for _, x := range numbers {
		for _, y := range numbers {
			for _, half := range numbers {
				want := corners(fix.Sub(x, half), fix.Sub(y, half), fix.Add(x, half), fix.Add(y, half))
				if got := Around(at(x, y), half); got != want {
					t.Errorf("Around(%v, %d) = %v, want %v", at(x, y), half, got, want)
				}
			}
		}
	}
}

func TestIn(t *testing.T) {
	b := corners(2, -1, 5, 3)
	cases := []struct {
		p    api.Vec
		b    Box
		want bool
	}{
		{at(3, 0), b, true},
		// On each edge, and just beyond it.
		{at(2, 0), b, true}, {at(5, 0), b, true}, {at(3, -1), b, true}, {at(3, 3), b, true},
		{at(1, 0), b, false}, {at(6, 0), b, false}, {at(3, -2), b, false}, {at(3, 4), b, false},
		// On each corner, and just beyond it in one direction.
		{at(2, -1), b, true}, {at(5, -1), b, true}, {at(2, 3), b, true}, {at(5, 3), b, true},
		{at(1, -1), b, false}, {at(5, -2), b, false}, {at(2, 4), b, false}, {at(6, 3), b, false},
		// Boxes of no width.
		{at(3, 0), corners(3, -1, 3, 1), true}, {at(2, 0), corners(3, -1, 3, 1), false},
		{at(0, 3), corners(-1, 3, 1, 3), true}, {at(0, 4), corners(-1, 3, 1, 3), false},
		{at(7, 8), corners(7, 8, 7, 8), true}, {at(8, 7), corners(7, 8, 7, 8), false},
		// The limits.
		{at(limit, -limit), everything(), true}, {at(-limit, limit), everything(), true},
		{at(0, 0), Box{}, true},
	}
	for _, c := range cases {
		if got := In(c.p, c.b); got != c.want {
			t.Errorf("In(%v, %v) = %v, want %v", c.p, c.b, got, c.want)
		}
	}
}

func TestInOfWrongOnes(t *testing.T) {
	for _, p := range nowhere() {
		for _, b := range append(unformed(), everything()) {
			if In(p, b) {
				t.Errorf("In(%v, %v) = true", p, b)
			}
		}
	}
	for _, b := range unformed() {
		for _, p := range []api.Vec{{}, at(1, 1), at(0, 3), at(3, 0), at(limit, 0), b.Least, b.Most} {
			if In(p, b) {
				t.Errorf("In(%v, %v) = true", p, b)
			}
		}
	}
}

func TestOverlap(t *testing.T) {
	b := corners(2, -1, 5, 3)
	cases := []struct {
		a, b Box
		want bool
	}{
		{b, b, true}, {b, corners(3, 0, 4, 1), true}, {b, corners(0, -9, 9, 9), true}, {b, everything(), true},
		// Each edge in common, and one 65536th more.
		{b, corners(5, -1, 6, 3), false}, {b, corners(4, -1, 6, 3), true},
		{b, corners(0, -1, 2, 3), false}, {b, corners(0, -1, 3, 3), true},
		{b, corners(2, 3, 5, 9), false}, {b, corners(2, 2, 5, 9), true},
		{b, corners(2, -9, 5, -1), false}, {b, corners(2, -9, 5, 0), true},
		// Each corner in common, and one 65536th more.
		{b, corners(5, 3, 6, 4), false}, {b, corners(4, 2, 6, 4), true}, {b, corners(5, 2, 6, 4), false},
		{b, corners(0, 3, 2, 4), false}, {b, corners(0, 2, 3, 4), true}, {b, corners(0, 3, 3, 4), false},
		{b, corners(5, -9, 6, -1), false}, {b, corners(4, -9, 6, 0), true},
		{b, corners(0, -9, 2, -1), false}, {b, corners(0, -9, 3, 0), true},
		// Away from one another in one direction, and in both.
		{b, corners(7, 0, 8, 1), false}, {b, corners(3, 5, 4, 9), false}, {b, corners(7, 7, 8, 8), false},
		// Boxes of no width: within, on an edge, and on one another.
		{b, corners(3, -1, 3, 3), true}, {b, corners(2, -1, 2, 3), false}, {b, corners(5, -1, 5, 3), false},
		{b, corners(2, 0, 5, 0), true}, {b, corners(2, 3, 5, 3), false}, {b, corners(2, -1, 5, -1), false},
		{b, corners(4, 2, 4, 2), true}, {b, corners(5, 3, 5, 3), false},
		{corners(3, 0, 3, 9), corners(3, 0, 3, 9), false}, {corners(0, 3, 9, 3), corners(0, 3, 9, 3), false},
		{corners(3, -9, 3, 9), corners(-9, 3, 9, 3), true}, {Box{}, Box{}, false},
	}
	for _, c := range cases {
		if got := Overlap(c.a, c.b); got != c.want {
			t.Errorf("Overlap(%v, %v) = %v, want %v", c.a, c.b, got, c.want)
		}
		if got := Overlap(c.b, c.a); got != c.want {
			t.Errorf("Overlap(%v, %v) = %v, want %v", c.b, c.a, got, c.want)
		}
	}
}

func TestOverlapOfWrongOnes(t *testing.T) {
	for _, a := range unformed() {
		for _, b := range append(unformed(), everything(), corners(-9, -9, 9, 9)) {
			if Overlap(a, b) || Overlap(b, a) {
				t.Errorf("Overlap of %v and %v = true", a, b)
			}
		}
	}
}

func TestAhead(t *testing.T) {
	const top = 1 << 30
	cases := []struct {
		a, b Time
		want bool
	}{
		{Time{1, 3}, Time{1, 2}, true}, {Time{1, 2}, Time{1, 3}, false},
		{Time{1, 2}, Time{2, 4}, false}, {Time{2, 4}, Time{1, 2}, false}, {Time{1, 2}, Time{1, 2}, false},
		{Time{0, 1}, Time{0, 9}, false}, {Time{0, 9}, Time{1, 9}, true}, {Time{1, 1}, Time{0, 1}, false},
		{Time{3, 2}, Time{2, 1}, true}, {Time{1, 1}, Time{5, 1}, true},
		// D below 1.
		{Time{0, 0}, Time{1, 2}, false}, {Time{1, 2}, Time{1, 0}, false}, {Time{1, 0}, Time{1, 2}, false},
		{Time{1, -3}, Time{1, 2}, false}, {Time{1, 2}, Time{1, -3}, false}, {Time{2, -1}, Time{1, -1}, false},
		{Time{1, 1}, Time{0, -1}, false}, {Time{}, Time{}, false}, {Time{0, 0}, Time{1, 1}, false},
		// N below 0.
		{Time{-1, 2}, Time{1, 2}, false}, {Time{-2, 2}, Time{-1, 2}, false}, {Time{-1, 1}, Time{0, 1}, false},
		{Time{1, 2}, Time{-1, 2}, false}, {Time{-1, -2}, Time{1, 1}, false},
		// N and D at just 2^30.
		{Time{1, top}, Time{1, 1}, true}, {Time{0, 1}, Time{1, top}, true}, {Time{1, 1}, Time{top, 1}, true},
		{Time{1, top}, Time{top, 1}, true}, {Time{top, 1}, Time{1, top}, false},
		{Time{top, top}, Time{top, top}, false}, {Time{top - 1, top}, Time{top, top}, true},
		{Time{top - 1, top}, Time{top - 2, top - 1}, false}, {Time{top - 2, top - 1}, Time{top - 1, top}, true},
		// N and D just beyond 2^30.
		{Time{1, top + 1}, Time{1, 1}, false}, {Time{0, 1}, Time{1, top + 1}, false},
		{Time{1, 1}, Time{top + 1, 1}, false}, {Time{top + 1, top}, Time{top, 1}, false},
		// So far beyond that products would go round.
		{Time{1, 1 << 32}, Time{1 << 32, 1}, false}, {Time{0, 1}, Time{math.MaxInt64, 1}, false},
		{Time{1, math.MaxInt64}, Time{1, 1}, false}, {Time{math.MinInt64, 1}, Time{1, 1}, false},
		{Time{0, 1}, Time{1, math.MinInt64}, false}, {Time{1 << 62, 3}, Time{3, 1 << 62}, false},
	}
	for _, c := range cases {
		if got := Ahead(c.a, c.b); got != c.want {
			t.Errorf("Ahead(%v, %v) = %v, want %v", c.a, c.b, got, c.want)
		}
	}
}

// times are those that may be compared, and others.
func times() []Time {
	numbers := []int64{
		math.MinInt64, -1 << 32, -1<<30 - 1, -1 << 30, -1, 0, 1, 2, 3, 7, 65536, 1<<28 - 1, 1 << 28,
		1<<30 - 1, 1 << 30, 1<<30 + 1, 1 << 32, 1 << 34, math.MaxInt64,
	}
	var all []Time
	for _, n := range numbers {
		for _, d := range numbers {
			all = append(all, Time{n, d})
		}
	}
	return all
}

func TestAheadAgainstExact(t *testing.T) {
	formed := func(x Time) bool { return x.D >= 1 && x.D <= 1<<30 && x.N >= 0 && x.N <= 1<<30 }
	for _, a := range times() {
		for _, b := range times() {
			want := formed(a) && formed(b) && big.NewRat(a.N, a.D).Cmp(big.NewRat(b.N, b.D)) < 0
			if got := Ahead(a, b); got != want {
				t.Errorf("Ahead(%v, %v) = %v, want %v", a, b, got, want)
			}
		}
	}
}
