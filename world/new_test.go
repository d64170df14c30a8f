package world

import (
	"math"
	"testing"

	"ricochet/api"
	"ricochet/tiles"
)

func checkNew(t *testing.T, m tiles.Map, seed uint64, balls int, want World) {
	t.Helper()
	got, e := New(m, seed, balls)
	checkErrno(t, "New", e, 0)
	checkWorld(t, "New", got, want)
}

// Worlds that were worked out by a script that knows nothing of this program.
func TestNewOfOneSpawn(t *testing.T) {
	c := chart("o/")
	midst := at(half, half)
	for _, x := range []struct {
		seed  uint64
		state uint64
		vels  []api.Vec
	}{
		{0, 0, nil},
		{7, 7, nil},
		{math.MaxUint64, math.MaxUint64, nil},
		{0, 0xdaa66d2c7ddf743f, []api.Vec{at(-6034, -15492)}},
		{1, 0xdaa66d2c7ddf7440, []api.Vec{at(8319, -6616)}},
		{7, 0xdaa66d2c7ddf7446, []api.Vec{at(3746, -15889)}},
		{1 << 63, 0x5aa66d2c7ddf743f, []api.Vec{at(-1757, 15357)}},
		{math.MaxUint64, 0xdaa66d2c7ddf743e, []api.Vec{at(8075, -837)}},
		{7, 0xb54cda58fbbee885, []api.Vec{at(3746, -15889), at(-9051, -12835)}},
		{0, 0x8ff34785799e5cbd, []api.Vec{at(-6034, -15492), at(-8919, -10297), at(-1562, 12874)}},
		{1, 0x8ff34785799e5cbe, []api.Vec{at(8319, -6616), at(6470, 14329), at(-8659, 11633)}},
		{1 << 63, 0x0ff34785799e5cbd, []api.Vec{at(-1757, 15357), at(-135, 11740), at(-12048, 12293)}},
		{math.MaxUint64, 0x8ff34785799e5cbc, []api.Vec{at(8075, -837), at(-3472, -12072), at(1825, 5600)}},
	} {
		want := c.world(t, x.state, 0)
		for i, vel := range x.vels {
			want.L = append(want.L, ballAt(9+i, midst, vel))
		}
		checkNew(t, c.read(t), x.seed, len(x.vels), want)
	}
}

func TestNewOfSeveralSpawns(t *testing.T) {
	c := chart("o.o/.#./..o/")
	first, second, third := at(half, half), at(2*one+half, half), at(2*one+half, 2*one+half)
	for _, x := range []struct {
		seed  uint64
		state uint64
		l     []api.Entity
	}{
		{7, 7, nil},
		{0, 0xdaa66d2c7ddf743f, []api.Entity{ballAt(9, second, at(-6034, -15492))}},
		{1, 0xdaa66d2c7ddf7440, []api.Entity{ballAt(9, third, at(8319, -6616))}},
		{7, 0xdaa66d2c7ddf7446, []api.Entity{ballAt(9, first, at(3746, -15889))}},
		{0, 0x8ff34785799e5cbd, []api.Entity{
			ballAt(9, second, at(-6034, -15492)), ballAt(10, second, at(-8919, -10297)), ballAt(11, third, at(-1562, 12874)),
		}},
		{math.MaxUint64, 0x8ff34785799e5cbc, []api.Entity{
			ballAt(9, third, at(8075, -837)), ballAt(10, first, at(-3472, -12072)), ballAt(11, second, at(1825, 5600)),
		}},
		{7, 0xd5336963eefba1ff, []api.Entity{
			ballAt(9, first, at(3746, -15889)), ballAt(10, first, at(-9051, -12835)),
			ballAt(11, second, at(15965, -7241)), ballAt(12, third, at(-1578, -8565)),
			ballAt(13, first, at(-13743, -15763)), ballAt(14, first, at(10149, 15799)),
			ballAt(15, third, at(5259, 13440)), ballAt(16, third, at(-4004, 6180)),
		}},
	} {
		checkNew(t, c.read(t), x.seed, len(x.l), c.world(t, x.state, 0, x.l...))
	}
}

// Seeds whose ball has just the least speed in a direction, the greatest, or none.
func TestTheEdgesOfVel(t *testing.T) {
	c := chart("oo/")
	right := at(one+half, half)
	for _, x := range []struct {
		seed  uint64
		state uint64
		vel   api.Vec
	}{
		{11835, 0xdaa66d2c7ddfa27a, at(-16384, -10625)},
		{46618, 0xdaa66d2c7de02a59, at(16384, -14162)},
		{16772, 0xdaa66d2c7ddfb5c3, at(0, 2555)},
		{10935, 0xdaa66d2c7ddf9ef6, at(15070, -16384)},
		{38760, 0xdaa66d2c7de00ba7, at(-1575, 16384)},
		{2625, 0xdaa66d2c7ddf7e80, at(14163, 0)},
	} {
		checkNew(t, c.read(t), x.seed, 1, c.world(t, x.state, 0, ballAt(9, right, x.vel)))
	}
}

// Many seeds on many maps, as the second telling has them.
func TestManyBeginnings(t *testing.T) {
	r := rule(3)
	for _, c := range charts() {
		m := c.read(t)
		for range 40 {
			seed := uint64(r.below(1<<31)) << r.below(34)
			for balls := 0; balls <= 8; balls++ {
				checkNew(t, m, seed, balls, begin(m, seed, balls).world())
			}
		}
	}
}

// One more ball leaves the ones ahead of it as they are.
func TestBallsAreMadeOneByOne(t *testing.T) {
	m := chart("o.o/.#./..o/").read(t)
	all, _ := New(m, 99, 8)
	for balls := range 9 {
		w, e := New(m, 99, balls)
		checkErrno(t, "New", e, 0)
		w.State, w.L = all.State, append(w.L, all.L[balls:]...)
		checkWorld(t, "with the balls behind them", w, all)
	}
}

func TestHowManyBalls(t *testing.T) {
	m := chart("o.o/.#./..o/").read(t)
	for _, balls := range []int{farBelow, -9, -8, -1, 9, 10, 16, 1 << 31, 1 << 32, farAbove} {
		w, e := New(m, 5, balls)
		checkErrno(t, "New", e, api.ErrArg)
		checkWorld(t, "beside the error", w, World{})
	}
	for balls := 0; balls <= 8; balls++ {
		w, e := New(m, 5, balls)
		checkErrno(t, "New", e, 0)
		if len(w.L) != balls {
			t.Errorf("%d balls are %v", balls, w.L)
		}
	}
}

func TestNewOfMapsThatCannotBeRead(t *testing.T) {
	for _, m := range unreadable(t) {
		for _, balls := range []int{farBelow, -1, 0, 1, 8, 9, farAbove} {
			w, e := New(m, 5, balls)
			checkErrno(t, "New", e, api.ErrArg)
			checkWorld(t, "beside the error", w, World{})
		}
	}
}

// New keeps neither the map's lists nor their spare room.
func TestNewDoesNotHangOnItsMap(t *testing.T) {
	m := chart("o.o/.#./..o/").read(t)
	checkApart(t, World{Map: m}, func(w World) World {
		got, e := New(w.Map, 7, 3)
		checkErrno(t, "New", e, 0)
		return got
	})
	w, _ := New(m, 7, 3)
	checkWorld(t, "New", w, begin(m, 7, 3).world())
}
