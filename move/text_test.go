package move

import (
	"math"
	"math/big"
	"slices"
	"strings"
	"testing"

	"ricochet/api"
	"ricochet/tiles"
)

// The document's numbers, written out, so that one that were read wrongly would
// be noticed.
const (
	one      = 65536
	half     = 32768 // of a tile
	reach    = 24576 // of a box, from its middle
	quarter  = 16384 // of One: the greatest speed of a player
	limit    = 134217728
	farBelow = math.MinInt64
	farAbove = math.MaxInt64
)

func at(x, y api.Fix) api.Vec { return api.Vec{X: x, Y: y} }

func playerAt(place api.Vec) api.Entity {
	return api.Entity{ID: 1, Kind: 1, At: place, Health: 100}
}

func ballAt(place, vel api.Vec) api.Entity {
	return api.Entity{ID: 9, Kind: 2, At: place, Vel: vel, Health: 100}
}

// chart is a map told by #, . and o, with / for each line end.
type chart string

// read is the map that is told, which must be one.
func (c chart) read(t *testing.T) tiles.Map {
	t.Helper()
	s := strings.NewReplacer("#", "\xe2\x96\x88", ".", "\xc2\xb7", "o", "\xe2\x97\x8e", "/", "\x0a").Replace(string(c))
	m, place, e := tiles.Read(s)
	if e != 0 {
		t.Fatalf("%q isn't a map's text, from %d on", c, place)
	}
	return m
}

func (c chart) lines() []string {
	return strings.Split(strings.TrimSuffix(string(c), "/"), "/")
}

func (c chart) sides() (api.Fix, api.Fix) {
	return api.Fix(len(c.lines()[0])), api.Fix(len(c.lines()))
}

// free is what Stands must answer, told by how far middles are from one another.
func (c chart) free(place api.Vec) bool {
	w, h := c.sides()
	if place.X < reach || place.Y < reach || place.X > w*one-reach || place.Y > h*one-reach {
		return false
	}
	for y, line := range c.lines() {
		for x, sign := range line {
			middle := at(api.Fix(x)*one+half, api.Fix(y)*one+half)
			if sign == '#' && near(place.X, middle.X) && near(place.Y, middle.Y) {
				return false
			}
		}
	}
	return true
}

// near is whether a tile's middle and a box's are so near that both overlap in
// that direction.
func near(a, b api.Fix) bool {
	return max(a-b, b-a) < reach+half
}

// share is mx 127ths of the greatest speed, rounded down by whole numbers without
// bound.
func share(mx int8) api.Fix {
	product := big.NewInt(int64(mx) * quarter)
	return api.Fix(new(big.Int).Div(product, big.NewInt(127)).Int64())
}

// walked is what a step by such ways makes of a living player.
func (c chart) walked(e api.Entity, mx, my int8) api.Entity {
	e.Vel = at(share(mx), share(my))
	if next := at(e.At.X+e.Vel.X, e.At.Y); c.free(next) {
		e.At = next
	}
	if next := at(e.At.X, e.At.Y+e.Vel.Y); c.free(next) {
		e.At = next
	}
	return e
}

// rolled is what a step makes of a ball.
func (c chart) rolled(e api.Entity) api.Entity {
	if next := at(e.At.X+e.Vel.X, e.At.Y); c.free(next) {
		e.At = next
	} else {
		e.Vel.X = 0 - e.Vel.X
	}
	if next := at(e.At.X, e.At.Y+e.Vel.Y); c.free(next) {
		e.At = next
	} else {
		e.Vel.Y = 0 - e.Vel.Y
	}
	return e
}

// charts are maps of many sides: some that are told, others that look like chance.
func charts() []chart {
	l := []chart{
		"o/", "o./", "o/./", "o#/", "#/o/", "o./.#/", ".#/o./", ".o/#./", "#./.o/", "o..#/.#../..../",
		"#####/#o..#/#.#.#/#...#/#####/", "o..#/..../#..o/", "...o/.##./.#../..../",
	}
	r := rule(21)
	for range 12 {
		l = append(l, r.chart(1+r.below(8), 1+r.below(8)))
	}
	return append(l, r.chart(32, 3), r.chart(3, 32), r.chart(32, 32))
}

// rule is a fixed line of numbers that look like chance.
type rule uint64

func (r *rule) below(n int) int {
	*r = *r*6364136223846793005 + 1442695040888963407
	return int(uint64(*r) >> 33 % uint64(n))
}

// within is a number from -n to n.
func (r *rule) within(n int) api.Fix { return api.Fix(r.below(2*n+1) - n) }

// share is one of -127 to 127.
func (r *rule) share() int8 { return int8(r.below(255) - 127) }

func (r *rule) chart(w, h int) chart {
	told := make([]byte, 0, (w+1)*h)
	for range h {
		for range w {
			told = append(told, "#...."[r.below(5)])
		}
		told = append(told, '/')
	}
	told[r.below(h)*(w+1)+r.below(w)] = 'o'
	return chart(told)
}

// place is one of the whole map, or just beyond it.
func (r *rule) place(c chart) api.Vec {
	w, h := c.sides()
	return at(api.Fix(r.below(int(w+1)*one))-half, api.Fix(r.below(int(h+1)*one))-half)
}

// freePlace is the first one of many that is free, or a spawn.
func (r *rule) freePlace(c chart, m tiles.Map) api.Vec {
	for range 20 {
		if place := r.place(c); c.free(place) {
			return place
		}
	}
	return m.Spawns[r.below(len(m.Spawns))]
}

func (r *rule) player(place api.Vec) api.Entity {
	return api.Entity{ID: 1 + r.below(8), Kind: 1, At: place, Vel: at(r.within(one), r.within(one)), Health: 1 + r.below(100)}
}

func (r *rule) ball(place api.Vec) api.Entity {
	e := ballAt(place, at(r.within(one), r.within(one)))
	e.ID += r.below(8)
	return e
}

func checkWalk(t *testing.T, m tiles.Map, e api.Entity, mx, my int8, want api.Entity) {
	t.Helper()
	if got := Walk(m, e, mx, my); got != want {
		t.Fatalf("%v walks by %d, %d to %v, not to %v, on %v", e, mx, my, got, want, m)
	}
}

func checkRoll(t *testing.T, m tiles.Map, e, want api.Entity) {
	t.Helper()
	if got := Roll(m, e); got != want {
		t.Fatalf("%v rolls to %v, not to %v, on %v", e, got, want, m)
	}
}

// A reference that is wrong by itself would hide what it should show.
func TestTheTellingItself(t *testing.T) {
	speeds := map[int8]api.Fix{-127: -16384, -126: -16255, -1: -130, 0: 0, 1: 129, 126: 16254, 127: 16384}
	for mx, want := range speeds {
		if got := share(mx); got != want {
			t.Errorf("%d means %d, not %d", mx, got, want)
		}
	}
	for _, c := range charts() {
		m := c.read(t)
		w, h := c.sides()
		if api.Fix(m.W) != w || api.Fix(m.H) != h {
			t.Errorf("%q has the sides %d, %d", c, w, h)
		}
		for _, spawn := range m.Spawns {
			if !c.free(spawn) {
				t.Errorf("%q isn't free at %v", c, spawn)
			}
		}
		for i, wall := range m.Walls {
			place := at(api.Fix(i%m.W)*one+half, api.Fix(i/m.W)*one+half)
			if c.free(place) == wall {
				t.Errorf("%q at %v is free: %v", c, place, !wall)
			}
		}
	}
	if c := chart("o./.#/"); !c.free(at(65536, 40960)) || c.free(at(40961, 40961)) || !slices.Contains(charts(), c) {
		t.Error("the corner")
	}
}
