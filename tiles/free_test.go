package tiles

import (
	"testing"

	"ricochet/api"
	"ricochet/box"
)

// free is what Free must answer of a map that is formed, told by numbers: tile by
// tile, all of them.
func free(m Map, b box.Box) bool {
	l, g := b.Least, b.Most
	if l.X > g.X || l.Y > g.Y || l.X < 0 || l.Y < 0 || g.X > api.Fix(m.W)*65536 || g.Y > api.Fix(m.H)*65536 {
		return false
	}
	for i, wall := range m.Walls {
		left, top := api.Fix(i%m.W)*65536, api.Fix(i/m.W)*65536
		if wall && l.X < left+65536 && left < g.X && l.Y < top+65536 && top < g.Y {
			return false
		}
	}
	return true
}

// room has a wall all around, and one in its midst; the floors are 1 to 3 in both
// directions, but for 2, 2.
func room() Map { return mapOf(text("#####/#o..#/#.#.#/#...#/#####/")) }

func TestFree(t *testing.T) {
	cases := []struct {
		b    box.Box
		want bool
	}{
		// In the midst of floors, on one of them whole, and over several.
		{corners(one+100, one+100, 2*one-100, 2*one-100), true},
		{corners(one, one, 2*one, 2*one), true},
		{corners(one, one, 4*one, 2*one), true},
		{corners(one, one, 2*one, 4*one), true},
		{corners(3*one, one, 4*one, 4*one), true},
		{corners(one+half, one+1, 3*one+half, 2*one-1), true},
		// Over a wall, whole or in part, and around it.
		{corners(2*one, 2*one, 3*one, 3*one), false},
		{corners(one, one, 4*one, 4*one), false},
		{corners(one, one, 2*one+half, 2*one+half), false},
		{corners(2*one+1, 2*one+1, 2*one+2, 2*one+2), false},
		{corners(0, 0, 5*one, 5*one), false},
		// To a wall's edge, and one further.
		{corners(one-1, one, 2*one, 2*one), false},
		{corners(one, one-1, 2*one, 2*one), false},
		{corners(3*one, one, 4*one+1, 2*one), false},
		{corners(one, 3*one, 2*one, 4*one+1), false},
		{corners(one, 2*one, 2*one, 3*one), true},
		{corners(one, 2*one, 2*one+1, 3*one), false},
		{corners(3*one-1, 2*one, 4*one, 3*one), false},
		{corners(2*one, one, 3*one, 2*one+1), false},
		{corners(2*one, 3*one-1, 3*one, 4*one), false},
		// Past a wall's corner.
		{corners(one, one, 2*one+1, 2*one), true},
		{corners(one, one, 2*one+1, 2*one+1), false},
	}
	for _, c := range cases {
		if got := Free(room(), c.b); got != c.want {
			t.Errorf("Free of %v is %v", c.b, got)
		}
	}
}

// Boxes of no width, or no height: on a wall's edge they have no more than that in
// common with it, within it they begin ahead of its end, and it of theirs.
func TestFreeOfThinBoxes(t *testing.T) {
	cases := []struct {
		b    box.Box
		want bool
	}{
		{corners(one+half, one, one+half, 2*one), true},
		{corners(one, one+half, 2*one, one+half), true},
		{corners(one+5, one+5, one+5, one+5), true},
		{corners(2*one, 2*one, 2*one, 3*one), true},
		{corners(3*one, 2*one, 3*one, 3*one), true},
		{corners(2*one, 2*one, 3*one, 2*one), true},
		{corners(2*one, 3*one, 3*one, 3*one), true},
		{corners(2*one, 2*one, 2*one, 2*one), true},
		{corners(3*one, 3*one, 3*one, 3*one), true},
		{corners(2*one+1, 2*one, 2*one+1, 3*one), false},
		{corners(3*one-1, 2*one, 3*one-1, 3*one), false},
		{corners(2*one, 2*one+1, 3*one, 2*one+1), false},
		{corners(2*one, 3*one-1, 3*one, 3*one-1), false},
		{corners(2*one+half, 2*one+half, 2*one+half, 2*one+half), false},
		{corners(2*one+1, 2*one, 2*one+1, 2*one), true},
		{corners(2*one, 0, 2*one, 5*one), true},
		{corners(2*one+1, 0, 2*one+1, 5*one), false},
		{corners(0, 3*one, 5*one, 3*one), true},
		{corners(0, 3*one-1, 5*one, 3*one-1), false},
		{corners(0, 0, 0, 5*one), true},
		{corners(5*one, 0, 5*one, 5*one), true},
		{corners(0, 0, 5*one, 0), true},
		{corners(0, 5*one, 5*one, 5*one), true},
		{corners(0, 0, 0, 0), true},
		{corners(5*one, 5*one, 5*one, 5*one), true},
		{corners(half, half, half, half), false},
	}
	for _, c := range cases {
		if got := Free(room(), c.b); got != c.want {
			t.Errorf("Free of %v is %v", c.b, got)
		}
	}
}

// A map without a wall is free to its edges, and no further.
func TestFreeToTheEdges(t *testing.T) {
	for _, sides := range [][2]int{{1, 1}, {3, 2}, {2, 3}, {32, 1}, {1, 32}, {32, 32}} {
		m := Map{sides[0], sides[1], make([]bool, sides[0]*sides[1]), []api.Vec{at(half, half)}}
		w, h := api.Fix(sides[0])*one, api.Fix(sides[1])*one
		for _, b := range []box.Box{corners(0, 0, w, h), corners(0, 0, 0, 0), corners(w, h, w, h), corners(w, 0, w, h), corners(0, h, w, h), corners(w, 0, w, 0), corners(5, 5, w-5, h-5)} {
			if !Free(m, b) {
				t.Errorf("%v of %v isn't free", b, sides)
			}
		}
		for _, b := range []box.Box{
			corners(-1, 0, w, h), corners(0, -1, w, h), corners(0, 0, w+1, h), corners(0, 0, w, h+1),
			corners(-1, 0, -1, 0), corners(0, -1, 0, -1), corners(w+1, h, w+1, h), corners(w, h+1, w, h+1),
			corners(-one, 0, 0, h), corners(w, 0, w+one, h), corners(0, -one, w, 0), corners(0, h, w, h+one),
			corners(-limit, -limit, limit, limit), corners(limit, 0, limit, 0), corners(0, -limit, 0, -limit),
		} {
			if Free(m, b) {
				t.Errorf("%v of %v is free", b, sides)
			}
		}
	}
}

func TestFreeOfUnformedBoxes(t *testing.T) {
	m := mapOf(text("o.../..../..../..../"))
	for _, b := range []box.Box{
		corners(1, 0, 0, 5), corners(0, 1, 5, 0), corners(1, 1, 0, 0), corners(2*one, one, one, 2*one), corners(one, 2*one, 2*one, one),
		corners(0, 0, -1, 0), corners(one, one, one-1, one), corners(4*one, 4*one, 0, 0),
		corners(0, 0, limit+1, one), corners(0, 0, one, limit+1), corners(-limit-1, 0, one, one), corners(0, -limit-1, one, one),
		corners(farBelow, farBelow, farAbove, farAbove), corners(farAbove, farAbove, farBelow, farBelow),
		corners(0, 0, farAbove, one), corners(0, 0, one, farBelow), corners(farBelow, 0, one, one), corners(0, farAbove, one, one),
		corners(farAbove, farAbove, farAbove, farAbove), corners(farBelow, farBelow, farBelow, farBelow),
		corners(0, 0, 1<<32+one, one), corners(1<<48, 0, 1<<48, 0),
	} {
		if Free(m, b) {
			t.Errorf("%v is free", b)
		}
	}
}

// All boxes whose corners are near tiles' corners, or in their midst.
func TestFreeOfAllBoxesNearEdges(t *testing.T) {
	for _, told := range []string{"o#/", "#/o/", ".#/o./", "#o/.#/", "..#/#.o/", "o../.#./.../"} {
		m := mapOf(text(told))
		xs, ys := nearEdges(m.W), nearEdges(m.H)
		for _, leastX := range xs {
			for _, leastY := range ys {
				for _, mostX := range xs {
					for _, mostY := range ys {
						checkFree(t, m, corners(leastX, leastY, mostX, mostY))
					}
				}
			}
		}
	}
}

func nearEdges(n int) []api.Fix {
	var l []api.Fix
	for i := range api.Fix(n + 1) {
		l = append(l, i*one-1, i*one, i*one+1, i*one+half)
	}
	return l
}

func checkFree(t *testing.T, m Map, b box.Box) {
	t.Helper()
	if got, want := Free(m, b), free(m, b); got != want {
		t.Fatalf("%v of %v: %v, not %v", b, m, got, want)
	}
}

// Boxes of all widths on maps of all sides, and those that stand on spawns.
func TestFreeOfMany(t *testing.T) {
	r := rule(3)
	count := 0
	for _, s := range texts() {
		m := mapOf(s)
		for range 400 {
			x, y := api.Fix(r.below(m.W*65536)), api.Fix(r.below(m.H*65536))
			width, height := api.Fix(r.below(1<<r.below(19))), api.Fix(r.below(1<<r.below(19)))
			b := corners(x, y, x+width, y+height)
			checkFree(t, m, b)
			if free(m, b) {
				count++
			}
		}
		for _, spawn := range m.Spawns {
			if !Free(m, box.Around(spawn, half)) || !Free(m, box.Around(spawn, api.Half)) {
				t.Fatalf("%q isn't free at its spawn %v", s, spawn)
			}
		}
	}
	if count < 1000 {
		t.Errorf("only %d were free", count)
	}
}

// Each wall by itself, and each floor, in the greatest map.
func TestFreeAtEachTile(t *testing.T) {
	r := rule(8)
	m := mapOf(r.text(side, side))
	for i, wall := range m.Walls {
		x, y := api.Fix(i%side)*one, api.Fix(i/side)*one
		if got := Free(m, corners(x, y, x+one, y+one)); got == wall {
			t.Errorf("the tile %d, of which it is told that it's a wall: %v, is free: %v", i, wall, got)
		}
	}
}
