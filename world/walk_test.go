package world

import (
	"testing"

	"ricochet/api"
	"ricochet/move"
)

func checkGo(t *testing.T, w World, c api.Command, id int, want World) {
	t.Helper()
	checkWorld(t, "Go", Go(w, c, id), want)
}

// enters is a command that doesn't fire.
func enters(mx, my int8) api.Command { return api.Command{Number: 1, MX: mx, MY: my} }

// walkers is a world in which the player 4 is as e, beside others.
func walkers(t *testing.T, e api.Entity) World {
	return chart("o../.../..#/").world(t, 5, 11,
		goes(playerAt(1, at(half, half), 30), at(-7, 9)), e, deadAt(6, at(one, one), 4), ballAt(9, at(98304, 98304), at(3, -2)))
}

func TestGo(t *testing.T) {
	midst := at(98304, 65536)
	for _, x := range []struct {
		from   api.Vec
		mx, my int8
		to     api.Vec
		vel    api.Vec
	}{
		{midst, 127, 0, at(114688, 65536), at(16384, 0)},
		{midst, -127, 0, at(81920, 65536), at(-16384, 0)},
		{midst, 0, 127, at(98304, 81920), at(0, 16384)},
		{midst, 0, -127, at(98304, 49152), at(0, -16384)},
		{midst, 64, -63, at(106560, 57408), at(8256, -8128)},
		{midst, -1, 1, at(98174, 65665), at(-130, 129)},
		{midst, 0, 0, midst, at(0, 0)},
		// The step in x leads to where a wall blocks the one in y.
		{at(98304, 98304), 127, 127, at(114688, 98304), at(16384, 16384)},
		// In a corner.
		{at(24576, 24576), -127, -127, at(24576, 24576), at(-16384, -16384)},
	} {
		e, want := goes(playerAt(4, x.from, 7), at(-3, 3)), goes(playerAt(4, x.to, 7), x.vel)
		checkGo(t, walkers(t, e), enters(x.mx, x.my), 4, walkers(t, want))
	}
}

// What else a command says doesn't count for the walk.
func TestWhatElseIsEntered(t *testing.T) {
	w := walkers(t, playerAt(4, at(98304, 65536), 100))
	want := walkers(t, goes(playerAt(4, at(114688, 49152), 100), at(16384, -16384)))
	for _, number := range []uint32{1, 2, 77, 1<<31 - 1, 1 << 31} {
		checkGo(t, w, api.Command{Number: number, MX: 127, MY: -127}, 4, want)
		for _, view := range []uint32{0, 1, 1 << 31} {
			for _, frac := range []uint8{0, 1, 255} {
				checkGo(t, w, api.Command{Number: number, MX: 127, MY: -127, Fire: true, View: view, Frac: frac}, 4, want)
			}
		}
	}
}

func TestGoByWhatIsNotFormed(t *testing.T) {
	w := walkers(t, goes(playerAt(4, at(98304, 65536), 100), at(-3, 3)))
	for _, c := range []api.Command{
		{}, {MX: 127, MY: 127}, {Number: 1<<31 + 1, MX: 127}, {Number: 1<<32 - 1, MX: 127},
		enters(-128, 0), enters(0, -128), enters(-128, 127), enters(127, -128), enters(-128, -128),
		{Number: 1, MX: 127, View: 1}, {Number: 1, MX: 127, Frac: 1}, {Number: 1, MX: 127, View: 1 << 31, Frac: 255},
		{Number: 1, MX: 127, Fire: true, View: 1<<31 + 1}, {Number: 0, MX: 127, Fire: true}, {Number: 1, MX: -128, Fire: true, View: 3},
	} {
		for _, id := range []int{farBelow, 0, 1, 4, 6, 8, 9, farAbove} {
			checkGo(t, w, c, id, w)
		}
	}
}

func TestGoOfNoPlayer(t *testing.T) {
	w := walkers(t, playerAt(4, at(98304, 65536), 100))
	for _, id := range append(strangers(), 2, 3, 5, 7, 8) {
		checkGo(t, w, enters(127, 127), id, w)
	}
	for _, x := range oddWorlds(t) {
		checkGo(t, x, enters(127, 127), 7, x)
	}
}

func TestTheDeadDoNotGo(t *testing.T) {
	for wait := 1; wait <= 20; wait++ {
		w := walkers(t, deadAt(4, at(98304, 65536), wait))
		checkGo(t, w, enters(127, -127), 4, w)
		checkGo(t, w, enters(0, 0), 4, w)
		checkGo(t, w, enters(127, -127), 6, w)
	}
}

// Each of all players, by ways of all kinds, as layer 12 tells.
func TestEachGoesAlone(t *testing.T) {
	r := rule(8)
	for _, c := range charts() {
		l := begin(c.read(t), 3, 4)
		for id := 1; id <= 8; id++ {
			l.join(id)
		}
		for range 200 {
			id, mx, my := r.from(1, 8), int8(r.from(-127, 127)), int8(r.from(-127, 127))
			w := l.world()
			l.walk(id, mx, my)
			checkGo(t, w, enters(mx, my), id, l.world())
		}
	}
}

// On a map that can't be read, and of who isn't formed, Go tells what layer 12 does.
func TestGoOfWhatIsNotFormed(t *testing.T) {
	players := []api.Entity{
		playerAt(2, at(half, half), 100), playerAt(2, at(half, half), 101), playerAt(2, at(half, half), -1), deadAt(2, at(half, half), 0),
		goes(playerAt(2, at(half, half), 100), at(one+1, 0)), playerAt(2, at(-1<<40, half), 100), {ID: 2, Kind: 2, At: at(half, half), Health: 100},
	}
	for _, m := range append(unreadable(t), chart("o./../").read(t)) {
		for _, e := range players {
			want := World{m, 1, 2, []api.Entity{playerAt(7, at(0, 0), 1), move.Walk(m, e, 50, -50), e}}
			checkGo(t, World{m, 1, 2, []api.Entity{playerAt(7, at(0, 0), 1), e, e}}, enters(50, -50), 2, want)
		}
	}
}
