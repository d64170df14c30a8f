package move

import (
	"slices"
	"testing"

	"ricochet/api"
	"ricochet/tiles"
)

func checkStands(t *testing.T, m tiles.Map, place api.Vec, want bool) {
	t.Helper()
	if got := Stands(m, place); got != want {
		t.Fatalf("one stands at %v: %v, on %v", place, got, m)
	}
}

func TestStands(t *testing.T) {
	m := room.read(t)
	for _, x := range []struct {
		place api.Vec
		want  bool
	}{
		{at(98304, 98304), true}, {at(229376, 229376), true}, {at(163840, 98304), true},
		// To the walls around, and one further.
		{at(90112, 90112), true}, {at(90111, 90112), false}, {at(90112, 90111), false},
		{at(237568, 237568), true}, {at(237569, 237568), false}, {at(237568, 237569), false},
		// To the wall in the midst, and one further.
		{at(106496, 163840), true}, {at(106497, 163840), false}, {at(221184, 163840), true}, {at(221183, 163840), false},
		{at(163840, 106496), true}, {at(163840, 106497), false}, {at(163840, 221184), true}, {at(163840, 221183), false},
		// Past its corners.
		{at(106497, 106496), true}, {at(106496, 106497), true}, {at(106497, 106497), false},
		{at(221183, 221184), true}, {at(221183, 221183), false}, {at(106497, 221183), false}, {at(221183, 106497), false},
		// In walls, and on the map's edges.
		{at(163840, 163840), false}, {at(32768, 32768), false}, {at(0, 0), false}, {at(327680, 98304), false},
	} {
		checkStands(t, m, x.place, x.want)
	}
}

func TestStandsAtTheMapsEdges(t *testing.T) {
	m := chart("o./../../").read(t)
	for _, x := range []struct {
		place api.Vec
		want  bool
	}{
		{at(24576, 24576), true}, {at(24575, 24576), false}, {at(24576, 24575), false},
		{at(106496, 172032), true}, {at(106497, 172032), false}, {at(106496, 172033), false},
		{at(24576, 172032), true}, {at(106496, 24576), true}, {at(65536, 65536), true},
		{at(0, 65536), false}, {at(65536, 0), false}, {at(-1, 65536), false}, {at(131072, 65536), false},
		{at(-24576, 65536), false}, {at(65536, 221184), false},
	} {
		checkStands(t, m, x.place, x.want)
	}
}

// Places that may not be, and such as numbers of 32 bits would take for others.
func TestStandsFarOff(t *testing.T) {
	m := chart("o../.../.../").read(t)
	far := []api.Fix{
		-one, -limit, -limit - 1, limit, limit + 1, limit - 24576, 1 << 30, 1<<31 - 1, 1 << 31, -1 << 31, -1<<31 - 1,
		1<<32 + 98304, -1<<32 + 98304, 1<<48 + 98304, 1<<63 - 1, 1<<63 - 24576, -1 << 63, -1<<63 + 24576, -1<<63 + 98304,
	}
	for _, n := range far {
		checkStands(t, m, at(n, 98304), false)
		checkStands(t, m, at(98304, n), false)
		checkStands(t, m, at(n, n), false)
	}
	checkStands(t, m, at(98304, 98304), true)
}

// unformed are maps that no text has.
func unformed() []tiles.Map {
	spawn := []api.Vec{at(half, half)}
	return []tiles.Map{
		{},
		{W: 3, H: 3},
		{W: 3, H: 3, Walls: make([]bool, 9)},
		{W: 3, H: 3, Spawns: spawn},
		{W: 3, H: 3, Walls: make([]bool, 8), Spawns: spawn},
		{W: 3, H: 3, Walls: make([]bool, 10), Spawns: spawn},
		{W: 3, H: 3, Walls: make([]bool, 9), Spawns: []api.Vec{at(half, half+1)}},
		{W: 3, H: 3, Walls: make([]bool, 9), Spawns: []api.Vec{at(half, half), at(half, half)}},
		{W: 3, H: 3, Walls: make([]bool, 9), Spawns: []api.Vec{at(7*one+half, half)}},
		{W: 3, H: 3, Walls: []bool{8: true}, Spawns: []api.Vec{at(2*one+half, 2*one+half)}},
		{W: 33, H: 3, Walls: make([]bool, 99), Spawns: spawn},
		{W: 3, H: 33, Walls: make([]bool, 99), Spawns: spawn},
		{W: -3, H: -3, Walls: make([]bool, 9), Spawns: spawn},
		{W: 3, H: 0, Spawns: spawn},
		{W: 1 << 32, H: 1 << 32, Spawns: spawn},
		{W: -1 << 63, H: 1<<63 - 1, Spawns: spawn},
	}
}

// On a map that isn't formed nobody stands, so that each move is blocked: a player
// stays where it is, with the Vel that it entered, and a ball is turned about.
func TestMapsThatAreNotFormed(t *testing.T) {
	for _, m := range unformed() {
		for _, place := range []api.Vec{at(98304, 98304), at(half, half), at(0, 0), at(limit, -limit)} {
			checkStands(t, m, place, false)
			for _, mx := range []int8{-127, 0, 1, 127} {
				want := playerAt(place)
				want.Vel = at(share(mx), -16384)
				checkWalk(t, m, playerAt(place), mx, -127, want)
			}
			for _, vel := range []api.Vec{at(0, 0), at(1, -1), at(-65536, 65536)} {
				checkRoll(t, m, ballAt(place, vel), ballAt(place, at(-vel.X, -vel.Y)))
			}
		}
	}
}

// A map stays as it was handed in, its spare room too.
func TestMapsStayAsTheyAre(t *testing.T) {
	m := room.read(t)
	m.Walls = append(m.Walls, true, false)[:len(m.Walls)]
	m.Spawns = append(m.Spawns, at(5, 6))[:len(m.Spawns)]
	walls, spawns := slices.Clone(m.Walls[:len(m.Walls)+2]), slices.Clone(m.Spawns[:len(m.Spawns)+1])
	for _, e := range []api.Entity{playerAt(m.Spawns[0]), ballAt(m.Spawns[0], at(-65536, 9))} {
		Walk(m, e, -127, 1)
		Roll(m, e)
		Stands(m, e.At)
	}
	if !slices.Equal(m.Walls[:len(walls)], walls) || !slices.Equal(m.Spawns[:len(spawns)], spawns) {
		t.Errorf("the map has become %v", m)
	}
}
