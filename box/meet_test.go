package box

import (
	"testing"

	"ricochet/api"
)

// trip is a way, and a box that it may meet.
type trip struct {
	from, to api.Vec
	b        Box
}

func (c trip) back() trip { return trip{c.to, c.from, c.b} }

func TestMeet(t *testing.T) {
	b := corners(2*one, -one, 3*one, one)
	cases := []struct {
		trip
		want Time
	}{
		{trip{at(0, 0), at(4*one, 0), b}, Time{131072, 262144}},
		{trip{at(4*one, 0), at(0, 0), b}, Time{65536, 262144}},
		{trip{at(0, 3*one), at(4*one, -one), b}, Time{131072, 262144}},
		// Up and down, by the nearer edge.
		{trip{at(5*one/2, -3*one), at(5*one/2, 3*one), b}, Time{131072, 393216}},
		{trip{at(5*one/2, 4*one), at(5*one/2, 0), b}, Time{196608, 262144}},
		// From within, from an edge and from a corner: at once.
		{trip{at(2*one, 0), at(9*one, 9*one), b}, Time{0, 1}},
		{trip{at(5*one/2, 0), at(5*one/2, 0), b}, Time{0, 1}},
		{trip{at(3*one, one), at(9*one, one), b}, Time{0, 1}},
		{trip{at(2*one, -one), at(-9*one, -9*one), b}, Time{0, 1}},
		// To an edge and to a corner: at the end.
		{trip{at(0, 0), at(2*one, 0), b}, Time{131072, 131072}},
		{trip{at(0, 3*one), at(2*one, one), b}, Time{131072, 131072}},
		// Along each edge.
		{trip{at(0, one), at(9*one, one), b}, Time{131072, 589824}},
		{trip{at(9*one, -one), at(0, -one), b}, Time{393216, 589824}},
		{trip{at(2*one, 4*one), at(2*one, -4*one), b}, Time{196608, 524288}},
		{trip{at(3*one, -4*one), at(3*one, 4*one), b}, Time{196608, 524288}},
		// Just touching each corner.
		{trip{at(one, 0), at(3*one, 2*one), b}, Time{65536, 131072}},
		{trip{at(2*one, 2*one), at(4*one, 0), b}, Time{65536, 131072}},
		{trip{at(one, 0), at(3*one, -2*one), b}, Time{65536, 131072}},
		{trip{at(4*one, 0), at(2*one, -2*one), b}, Time{65536, 131072}},
		// Both directions come, one of them later: that one's time.
		{trip{at(0, 2*one), at(4*one, -2*one), b}, Time{131072, 262144}},
		{trip{at(one, 3*one), at(3*one, 0), b}, Time{131072, 196608}},
		// Both come at the same time, but one of them is there at once: the other one's.
		{trip{at(2, 3), at(6, 1), corners(0, 0, 9, 2)}, Time{1, 2}},
		{trip{at(0, 2), at(1, 0), corners(0, 0, 1, 0)}, Time{2, 2}},
		// Both come at the same time, by other numbers: those of x.
		{trip{at(0, 3), at(8, -3), corners(4, -9, 9, 0)}, Time{4, 8}},
		{trip{at(3, 0), at(-3, 8), corners(-9, 4, 0, 9)}, Time{3, 6}},
		{trip{at(0, 0), at(2, 6), corners(1, 3, 9, 9)}, Time{1, 2}},
		{trip{at(0, 0), at(6, 2), corners(3, 1, 9, 9)}, Time{3, 6}},
		// Boxes of no width.
		{trip{at(0, 0), at(6, 3), corners(4, -9, 4, 9)}, Time{4, 6}},
		{trip{at(0, 0), at(6, 3), corners(-9, 2, 9, 2)}, Time{2, 3}},
		{trip{at(0, 0), at(6, 3), corners(4, 2, 4, 2)}, Time{4, 6}},
		{trip{at(4, 2), at(4, 2), corners(4, 2, 4, 2)}, Time{0, 1}},
		// From end to end of all places.
		{trip{at(-limit, -limit), at(limit, limit), corners(limit, limit, limit, limit)}, Time{1 << 28, 1 << 28}},
		{trip{at(limit, -limit), at(-limit, limit), corners(-limit, limit-1, 0, limit)}, Time{1<<28 - 1, 1 << 28}},
		{trip{at(limit, 0), at(-limit, 0), Box{}}, Time{1 << 27, 1 << 28}},
	}
	for _, c := range cases {
		if got, ok := Meet(c.from, c.to, c.b); got != c.want || !ok {
			t.Errorf("Meet(%v, %v, %v) = %v, %v, want %v, true", c.from, c.to, c.b, got, ok, c.want)
		}
	}
}

func TestMeetNothing(t *testing.T) {
	b := corners(2*one, -one, 3*one, one)
	cases := []trip{
		{at(0, 0), at(4*one, 8*one), b}, {at(0, 2*one), at(4*one, 2*one), b},
		// Too short, by one 65536th.
		{at(0, 0), at(2*one-1, 0), b}, {at(9*one, 0), at(3*one+1, 0), b},
		{at(2*one, 5*one), at(2*one, one+1), b}, {at(2*one, -5*one), at(2*one, -one-1), b},
		// Away from it.
		{at(0, 0), at(-4*one, 0), b}, {at(4*one, 0), at(9*one, 0), b},
		{at(2*one, 2*one), at(2*one, 9*one), b}, {at(2*one, -2*one), at(2*one, -9*one), b},
		// Beside an edge, by one 65536th.
		{at(0, one+1), at(9*one, one+1), b}, {at(0, -one-1), at(9*one, -one-1), b},
		{at(2*one-1, -5*one), at(2*one-1, 5*one), b}, {at(3*one+1, 5*one), at(3*one+1, -5*one), b},
		// Ways that end where they begin.
		{at(0, 0), at(0, 0), b}, {at(2*one, one+1), at(2*one, one+1), b}, {at(3*one+1, one), at(3*one+1, one), b},
		// Past a corner, by one 65536th.
		{at(one, 1), at(3*one, 2*one+1), b}, {at(one-1, 0), at(3*one-1, 2*one), b},
		{at(2*one, 2*one+1), at(4*one, 1), b}, {at(4*one+1, 0), at(2*one+1, -2*one), b},
		{at(one, -1), at(3*one, -2*one-1), b},
		// It leaves in one direction ahead of coming in the other one.
		{at(3*one, 2*one), at(4*one, 0), b}, {at(2*one, -2*one), at(one, 0), b},
		{at(0, one), at(4*one, 2*one), b}, {at(4*one, -one), at(0, -2*one), b},
		// Beside boxes of no width.
		{at(0, 0), at(6, 3), corners(3, 2, 3, 2)}, {at(0, 0), at(6, 3), corners(5, 2, 5, 2)},
		{at(0, 0), at(6, 3), corners(4, 3, 4, 9)}, {at(0, 0), at(6, 3), corners(-9, 2, 3, 2)},
		{at(limit, limit-1), at(-limit, -limit), corners(limit, limit, limit, limit)},
	}
	for _, c := range cases {
		if got, ok := Meet(c.from, c.to, c.b); got != (Time{}) || ok {
			t.Errorf("Meet(%v, %v, %v) = %v, %v, want none", c.from, c.to, c.b, got, ok)
		}
	}
}

func TestMeetOfWrongOnes(t *testing.T) {
	var cases []trip
	for _, p := range nowhere() {
		cases = append(cases, trip{p, at(0, 0), everything()}, trip{at(0, 0), p, everything()}, trip{p, p, everything()})
		for _, b := range unformed() {
			cases = append(cases, trip{p, at(0, 0), b}, trip{at(0, 0), p, b}, trip{p, p, b})
		}
	}
	for _, b := range unformed() {
		cases = append(cases, trip{at(0, 0), at(0, 0), b}, trip{at(-9, -9), at(9, 9), b}, trip{at(9, -9), at(-9, 9), b},
			trip{at(-limit, 0), at(limit, 0), b}, trip{at(1, limit), at(1, -limit), b}, trip{b.Least, b.Most, b})
	}
	for _, c := range cases {
		if got, ok := Meet(c.from, c.to, c.b); got != (Time{}) || ok {
			t.Errorf("Meet(%v, %v, %v) = %v, %v, want none", c.from, c.to, c.b, got, ok)
		}
	}
}

// isIn tells whether the point lies in the box at the time n / d, without rounding.
func (c trip) isIn(n, d int64) bool {
	within := func(from, to, least, most api.Fix) bool {
		place := int64(from)*d + int64(to-from)*n
		return int64(least)*d <= place && place <= int64(most)*d
	}
	return within(c.from.X, c.to.X, c.b.Least.X, c.b.Most.X) && within(c.from.Y, c.to.Y, c.b.Least.Y, c.b.Most.Y)
}

func distance(a, b api.Fix) int64 { return int64(max(a-b, b-a)) }

// firstIn asks of the times at which the point comes to the nearer corner's
// number, in each direction in which it isn't there at once, at which it lies
// in the box, and picks the first one, at the same time that of x.
func (c trip) firstIn() (Time, bool) {
	if c.isIn(0, 1) {
		return Time{0, 1}, true
	}
	var first Time
	found := false
	try := func(from, to, least, most api.Fix) {
		when := Time{min(distance(least, from), distance(most, from)), distance(to, from)}
		if least <= from && from <= most || when.N > when.D || !c.isIn(when.N, when.D) {
			return
		}
		if !found || when.N*first.D < first.N*when.D {
			first, found = when, true
		}
	}
	try(c.from.X, c.to.X, c.b.Least.X, c.b.Most.X)
	try(c.from.Y, c.to.Y, c.b.Least.Y, c.b.Most.Y)
	return first, found
}

// allTrips hands on all ways of a small grid with all boxes of it, and ways by
// a fixed rule over all places, in place of chance: the same ones at every run.
func allTrips(ask func(trip)) {
	grid := grid(5)
	for _, least := range grid {
		for _, greatest := range grid {
			b := Box{least, greatest}
			if !Formed(b) {
				continue
			}
			for _, from := range grid {
				for _, to := range grid {
					ask(trip{from, to, b})
				}
			}
		}
	}
	next := rule()
	for range 100000 {
		p, q := at(next(), next()), at(next(), next())
		b := Box{at(min(p.X, q.X), min(p.Y, q.Y)), at(max(p.X, q.X), max(p.Y, q.Y))}
		ask(trip{at(next(), next()), at(next(), next()), b})
	}
}

// grid is the places of a square of so many on a side.
func grid(side api.Fix) []api.Vec {
	var all []api.Vec
	for x := range side {
		for y := range side {
			all = append(all, at(x, y))
		}
	}
	return all
}

// rule makes numbers that a place may have: near and far ones in turns.
func rule() func() api.Fix {
	n := uint64(1)
	return func() api.Fix {
		n = n*6364136223846793005 + 1442695040888963407
		far := api.Fix(int32(n>>32) >> 4)
		if n>>60 < 4 {
			return far >> 20
		}
		return far
	}
}

func TestMeetAgainstAllTimes(t *testing.T) {
	met := 0
	allTrips(func(c trip) {
		want, wantOK := c.firstIn()
		got, ok := Meet(c.from, c.to, c.b)
		if got != want || ok != wantOK {
			t.Errorf("Meet(%v, %v, %v) = %v, %v, want %v, %v", c.from, c.to, c.b, got, ok, want, wantOK)
		}
		if ok && got.N > 0 {
			met++
		}
	})
	if met < 10000 {
		t.Errorf("only %d ways met a box on their way", met)
	}
}

// placeAt is where the point is at the time when, rounded down.
func (c trip) placeAt(when Time) api.Vec {
	part := func(from, to api.Fix) api.Fix {
		moved := int64(to-from) * when.N
		down := moved / when.D
		if moved%when.D < 0 {
			down--
		}
		return from + api.Fix(down)
	}
	return at(part(c.from.X, c.to.X), part(c.from.Y, c.to.Y))
}

func TestAtTheTimeThePointLiesInTheBox(t *testing.T) {
	allTrips(func(c trip) {
		when, ok := Meet(c.from, c.to, c.b)
		if !ok {
			return
		}
		if when.D < 1 || when.N < 0 || when.N > when.D {
			t.Fatalf("Meet(%v, %v, %v) = %v, no time of a way", c.from, c.to, c.b, when)
		}
		p := c.placeAt(when)
		if p.X < c.b.Least.X-1 || p.X > c.b.Most.X+1 || p.Y < c.b.Least.Y-1 || p.Y > c.b.Most.Y+1 {
			t.Errorf("Meet(%v, %v, %v) = %v, but the point is at %v then", c.from, c.to, c.b, when, p)
		}
	})
}

func TestWhoBeginsInTheBoxMeetsItAtOnce(t *testing.T) {
	allTrips(func(c trip) {
		when, ok := Meet(c.from, c.to, c.b)
		if in := In(c.from, c.b); in != (ok && when == Time{0, 1}) {
			t.Errorf("Meet(%v, %v, %v) = %v, %v; In of where it begins = %v", c.from, c.to, c.b, when, ok, in)
		}
	})
}

func TestToAndFroMeetsTheSame(t *testing.T) {
	allTrips(func(c trip) {
		back := c.back()
		_, ok := Meet(c.from, c.to, c.b)
		if _, okBack := Meet(back.from, back.to, back.b); ok != okBack {
			t.Errorf("Meet(%v, %v, %v) = %v, but %v on the way back", c.from, c.to, c.b, ok, okBack)
		}
	})
}
