package world

import (
	"slices"
	"testing"

	"ricochet/api"
)

// passage is a tick: who was there ahead of it, and who is behind it.
type passage struct {
	before, after []api.Entity
}

// checkTicks asks of ticks in which nobody comes in: the state stays.
func checkTicks(t *testing.T, c chart, l []passage) {
	t.Helper()
	for _, x := range l {
		checkWorld(t, "Tick", Tick(c.world(t, 77, 5, x.before...)), c.world(t, 77, 6, x.after...))
	}
}

type list = []api.Entity

// hall has one spawn, so that it is known where one comes in.
const hall = chart("o..../...../...../")

var midst = at(163840, 98304)

func TestTickOfNobody(t *testing.T) {
	checkTicks(t, hall, []passage{{nil, nil}})
	for _, tick := range []int{-2, -1, 0, 1, 1<<31 - 1, 1 << 31, farAbove - 1, farBelow} {
		checkWorld(t, "Tick", Tick(hall.world(t, 1, tick)), hall.world(t, 1, tick+1))
	}
	if w := Tick(hall.world(t, 1, farAbove)); w.State != 1 || len(w.L) != 0 {
		t.Errorf("behind the greatest tick is %v", w)
	}
}

// Balls roll and are turned about by what blocks them; who else is there doesn't.
func TestBallsRoll(t *testing.T) {
	still := goes(playerAt(3, at(40000, 160000), 70), at(16384, -16384))
	checkTicks(t, hall, []passage{
		{list{ballAt(9, midst, at(16384, -300))}, list{ballAt(9, at(180224, 98004), at(16384, -300))}},
		{list{ballAt(9, midst, at(0, 0))}, list{ballAt(9, midst, at(0, 0))}},
		{list{ballAt(9, at(300000, 98304), at(16384, 5))}, list{ballAt(9, at(300000, 98309), at(-16384, 5))}},
		{list{ballAt(9, at(30000, 30000), at(-16384, -16384))}, list{ballAt(9, at(30000, 30000), at(16384, 16384))}},
		{list{ballAt(9, midst, at(1, 1)), ballAt(16, midst, at(-1, -1))}, list{ballAt(9, at(163841, 98305), at(1, 1)), ballAt(16, at(163839, 98303), at(-1, -1))}},
		{list{still}, list{still}},
		{list{still, ballAt(12, midst, at(7, 8))}, list{still, ballAt(12, at(163847, 98312), at(7, 8))}},
	})
}

// The chapter's example, and healths about it. Who dies in a tick waits one less in
// the same one.
func TestABallThatOverlaps(t *testing.T) {
	ball := ballAt(9, midst, at(0, 0))
	for _, x := range []struct{ health, left int }{{100, 95}, {99, 94}, {11, 6}, {10, 5}, {7, 2}, {6, 1}} {
		for id := 1; id <= 8; id++ {
			before, after := goes(playerAt(id, midst, x.health), at(16384, -5)), goes(playerAt(id, midst, x.left), at(16384, -5))
			checkTicks(t, hall, []passage{{list{before, ball}, list{after, ball}}})
		}
	}
	for health := 1; health <= 5; health++ {
		before := goes(playerAt(2, midst, health), at(16384, -5))
		checkTicks(t, hall, []passage{{list{before, ball}, list{deadAt(2, midst, 19), ball}}})
	}
}

// Boxes that have an edge or a corner in common don't overlap.
func TestBoxesThatTouch(t *testing.T) {
	player := playerAt(2, midst, 100)
	hurt := playerAt(2, midst, 95)
	beside := func(x, y api.Fix) api.Entity { return ballAt(9, at(midst.X+x, midst.Y+y), at(0, 0)) }
	for _, x := range []api.Fix{-49152, 49152} {
		for _, y := range []api.Fix{-49152, -49151, -1, 0, 1, 49151, 49152} {
			checkTicks(t, hall, []passage{
				{list{player, beside(x, y)}, list{player, beside(x, y)}},
				{list{player, beside(y, x)}, list{player, beside(y, x)}},
			})
		}
	}
	for _, x := range []api.Fix{-49151, -1, 0, 1, 49151} {
		for _, y := range []api.Fix{-49151, -1, 0, 1, 49151} {
			checkTicks(t, hall, []passage{{list{player, beside(x, y)}, list{hurt, beside(x, y)}}})
		}
	}
}

// The balls roll ahead of the hits: where they are then counts.
func TestWhereBallsAreCounts(t *testing.T) {
	player, hurt := playerAt(2, midst, 100), playerAt(2, midst, 95)
	right := func(x api.Fix) api.Vec { return at(midst.X+x, midst.Y) }
	checkTicks(t, hall, []passage{
		// It comes, to the edge or one further.
		{list{player, ballAt(9, right(49162), at(-10, 0))}, list{player, ballAt(9, right(49152), at(-10, 0))}},
		{list{player, ballAt(9, right(49162), at(-11, 0))}, list{hurt, ballAt(9, right(49151), at(-11, 0))}},
		// It goes, to the edge or one less.
		{list{player, ballAt(9, right(-49142), at(-10, 0))}, list{player, ballAt(9, right(-49152), at(-10, 0))}},
		{list{player, ballAt(9, right(-49142), at(-9, 0))}, list{hurt, ballAt(9, right(-49151), at(-9, 0))}},
	})
	// It is blocked, and stays where it overlaps, or where it doesn't.
	corner := at(24576, 24576)
	checkTicks(t, hall, []passage{
		{list{playerAt(2, corner, 9), ballAt(9, corner, at(-16384, -16384))}, list{playerAt(2, corner, 4), ballAt(9, corner, at(16384, 16384))}},
		{list{playerAt(2, at(73728, 24576), 9), ballAt(9, corner, at(-1, 0))}, list{playerAt(2, at(73728, 24576), 9), ballAt(9, corner, at(1, 0))}},
	})
}

// Each ball hits, each player that it overlaps.
func TestSeveralBalls(t *testing.T) {
	a, b, far := ballAt(9, midst, at(0, 0)), ballAt(16, at(midst.X+40000, midst.Y), at(0, 0)), ballAt(12, at(30000, 30000), at(0, 0))
	for _, x := range []struct{ health, left int }{{100, 90}, {12, 2}, {11, 1}} {
		checkTicks(t, hall, []passage{{list{playerAt(2, midst, x.health), a, far, b}, list{playerAt(2, midst, x.left), a, far, b}}})
	}
	// The first ball is the death of who has up to 5, the second of who has up to 10.
	for health := 1; health <= 10; health++ {
		checkTicks(t, hall, []passage{{list{playerAt(2, midst, health), a, far, b}, list{deadAt(2, midst, 19), a, far, b}}})
	}
	all := list{}
	for id := 9; id <= 16; id++ {
		all = append(all, ballAt(id, midst, at(0, 0)))
	}
	checkTicks(t, hall, []passage{
		{append(list{playerAt(1, midst, 100), playerAt(8, midst, 41)}, all...), append(list{playerAt(1, midst, 60), playerAt(8, midst, 1)}, all...)},
		{append(list{playerAt(1, midst, 40), playerAt(8, midst, 39)}, all...), append(list{deadAt(1, midst, 19), deadAt(8, midst, 19)}, all...)},
		{
			list{playerAt(1, midst, 100), playerAt(2, at(30000, 30000), 100), playerAt(3, at(midst.X-20000, midst.Y), 100), playerAt(4, at(30000, 160000), 100), a, far, b},
			list{playerAt(1, midst, 90), playerAt(2, at(30000, 30000), 95), playerAt(3, at(midst.X-20000, midst.Y), 95), playerAt(4, at(30000, 160000), 100), a, far, b},
		},
	})
}

// Players don't hit one another, nor balls other balls.
func TestOnlyBallsHitOnlyPlayers(t *testing.T) {
	crowd := list{playerAt(1, midst, 100), playerAt(2, midst, 1), deadAt(3, midst, 9), playerAt(8, midst, 5)}
	after := slices.Clone(crowd)
	after[2].Wait = 8
	checkTicks(t, hall, []passage{
		{crowd, after},
		{list{ballAt(9, midst, at(0, 0)), ballAt(10, midst, at(0, 0))}, list{ballAt(9, midst, at(0, 0)), ballAt(10, midst, at(0, 0))}},
	})
}

// Who is dead isn't hit: it waits on, whatever overlaps it.
func TestTheDeadWait(t *testing.T) {
	ball := ballAt(9, midst, at(0, 0))
	for wait := 2; wait <= 20; wait++ {
		checkTicks(t, hall, []passage{
			{list{deadAt(2, midst, wait)}, list{deadAt(2, midst, wait-1)}},
			{list{deadAt(2, midst, wait), ball}, list{deadAt(2, midst, wait-1), ball}},
		})
	}
}

// Who has waited comes in, at a spawn of its own map, and isn't hit there in the same
// tick.
func TestTheDeadComeIn(t *testing.T) {
	spawn := at(half, half)
	ball := ballAt(9, spawn, at(0, 0))
	for id := 1; id <= 8; id++ {
		got := Tick(hall.world(t, 0, 5, deadAt(id, midst, 1), ball))
		checkWorld(t, "Tick", got, hall.world(t, step, 6, playerAt(id, spawn, 100), ball))
	}
	// A dead one that moves, which isn't formed, is at rest when it comes in.
	got := Tick(hall.world(t, 0, 5, goes(deadAt(2, midst, 1), at(5, 5))))
	checkWorld(t, "Tick", got, hall.world(t, step, 6, playerAt(2, spawn, 100)))
}

// Several come in by their IDs; the numbers of the state 0 end with 0xE220A8397B1DCDAF,
// 0x6E789E6AA1B965F4 and 0x06C45D188009454F: modulo 4 they are 3, 0 and 3; the state
// 1's first one is 0x910A2DEC89025CC1, modulo 4 it is 1.
func TestSeveralComeInByTheirIDs(t *testing.T) {
	c := chart("oo/oo/")
	spawns := list{{At: at(half, half)}, {At: at(one+half, half)}, {At: at(half, one+half)}, {At: at(one+half, one+half)}}
	in := func(id, spawn int) api.Entity { return playerAt(id, spawns[spawn].At, 100) }
	out := func(id, wait int) api.Entity { return deadAt(id, at(one, one), wait) }
	lives := playerAt(4, at(one, one), 33)
	const two, three = 2 * step & (1<<64 - 1), 3 * step & (1<<64 - 1)
	for _, x := range []struct {
		before list
		from   uint64
		after  list
		to     uint64
	}{
		{list{out(1, 1)}, 1, list{in(1, 1)}, step + 1},
		{list{out(1, 1), out(8, 1)}, 0, list{in(1, 3), in(8, 0)}, two},
		{list{out(1, 1), out(2, 2), out(8, 1)}, 0, list{in(1, 3), out(2, 1), in(8, 0)}, two},
		{list{out(2, 1), lives, out(5, 1), out(7, 20), out(8, 1)}, 0, list{in(2, 3), lives, in(5, 0), out(7, 19), in(8, 3)}, three},
		// In a list that is out of order the IDs count too.
		{list{out(8, 1), out(1, 1)}, 0, list{in(8, 0), in(1, 3)}, two},
		{list{out(5, 1), lives, out(8, 1), out(2, 1)}, 0, list{in(5, 0), lives, in(8, 3), in(2, 3)}, three},
	} {
		checkWorld(t, "Tick", Tick(c.world(t, x.from, 5, x.before...)), c.world(t, x.to, 6, x.after...))
	}
}

// Where many have one ID they come in as they stand, those of the lesser IDs first.
func TestManyComeInThatHaveOneID(t *testing.T) {
	m := chart("oo/oo/").read(t)
	w, l := World{Map: m, State: 4, Tick: 5}, ledger{m: m, state: 4}
	for i := range 120 {
		w.L = append(w.L, deadAt(7-i*i%7, at(one, one), 1))
	}
	want := World{m, 0, 6, slices.Clone(w.L)}
	for id := 1; id <= 7; id++ {
		for i, e := range w.L {
			if e.ID == id {
				want.L[i] = playerAt(id, l.spawn(), 100)
			}
		}
	}
	want.State = l.state
	checkWorld(t, "Tick", Tick(w), want)
}

// One that is hit to death from outside is there again behind 20 ticks, one that a
// ball hit to death behind 19 more.
func TestFromDeathToLife(t *testing.T) {
	spawn := at(half, half)
	w := Hit(hall.world(t, 0, 0, goes(playerAt(2, midst, 10), at(5, 5))), 2, 10)
	for tick := 0; tick < 20; tick++ {
		checkWorld(t, "dead by a hit", w, hall.world(t, 0, tick, deadAt(2, midst, 20-tick)))
		w = Tick(w)
	}
	checkWorld(t, "come in", w, hall.world(t, step, 20, playerAt(2, spawn, 100)))
	ball := ballAt(9, midst, at(0, 0))
	w = hall.world(t, 0, 0, playerAt(2, midst, 10), ball)
	for tick, want := range (list{playerAt(2, midst, 10), playerAt(2, midst, 5), deadAt(2, midst, 19), deadAt(2, midst, 18)}) {
		checkWorld(t, "by a ball", w, hall.world(t, 0, tick, want, ball))
		w = Tick(w)
	}
	for range 16 {
		w = Tick(w)
	}
	checkWorld(t, "dead for the last tick", w, hall.world(t, 0, 20, deadAt(2, midst, 1), ball))
	checkWorld(t, "come in", Tick(w), hall.world(t, step, 21, playerAt(2, spawn, 100), ball))
}

// A ball that goes about hits who stands in its way, in just those ticks.
func TestABallThatGoesAbout(t *testing.T) {
	c := chart("o.....o/")
	y := api.Fix(half)
	w := c.world(t, 3, 0, playerAt(1, at(98304, y), 100), playerAt(2, at(360448, y), 100), ballAt(9, at(32768, y), at(16384, 0)))
	for _, x := range []struct{ tick, first, second int }{
		{1, 100, 100}, {2, 95, 100}, {3, 90, 100}, {6, 75, 100}, {7, 75, 100}, {17, 75, 100}, {18, 75, 95}, {22, 75, 75}, {23, 75, 75},
		// It is turned about in the 25th tick, and in the 50th.
		{26, 75, 75}, {27, 75, 70}, {31, 75, 50}, {32, 75, 50}, {42, 75, 50}, {43, 70, 50}, {47, 50, 50}, {48, 50, 50}, {51, 50, 50}, {52, 45, 50},
	} {
		for range x.tick - w.Tick {
			w = Tick(w)
		}
		if w.L[0].Health != x.first || w.L[1].Health != x.second {
			t.Fatalf("behind %d ticks both have not %d, %d: %v", x.tick, x.first, x.second, w.L)
		}
	}
}

// Without a spawn the dead come in where they are, and the state stays.
func TestTheDeadComeInWithoutASpawn(t *testing.T) {
	for _, m := range unreadable(t) {
		if len(m.Spawns) == 0 {
			w := World{m, 77, 3, list{deadAt(2, midst, 1), deadAt(3, midst, 2)}}
			checkWorld(t, "Tick", Tick(w), World{m, 77, 4, list{playerAt(2, midst, 100), deadAt(3, midst, 1)}})
		}
	}
}

// On a map that can't be read each ball is turned about where it is, and hits there.
func TestTickOfMapsThatCannotBeRead(t *testing.T) {
	for _, m := range unreadable(t) {
		w := World{m, 77, 3, list{playerAt(2, midst, 100), ballAt(9, midst, at(5, -6))}}
		checkWorld(t, "Tick", Tick(w), World{m, 77, 4, list{playerAt(2, midst, 95), ballAt(9, midst, at(-5, 6))}})
	}
}

// Of who isn't formed: it rolls and is hit as far as the layers below tell.
func TestTickOfWhoIsNotFormed(t *testing.T) {
	ball := ballAt(9, midst, at(0, 0))
	far := at(1<<27+1, 0)
	neither := api.Entity{ID: 3, Kind: 3, At: midst, Wait: 1}
	ballBelow := api.Entity{ID: 3, Kind: 2, At: midst, Health: 100}
	noBall := api.Entity{ID: 9, Kind: 3, At: midst, Health: 100}
	checkTicks(t, hall, []passage{
		{list{playerAt(2, midst, 101), ball}, list{playerAt(2, midst, 96), ball}},
		{list{playerAt(2, midst, -7), ball}, list{deadAt(2, midst, 19), ball}},
		{list{playerAt(2, midst, farBelow), ball}, list{deadAt(2, midst, 19), ball}},
		{list{playerAt(2, midst, farAbove), ball}, list{playerAt(2, midst, farAbove-5), ball}},
		{list{playerAt(2, far, 100), ballAt(9, far, at(1, 1))}, list{playerAt(2, far, 100), ballAt(9, far, at(1, 1))}},
		{list{neither, ball}, list{neither, ball}},
		{list{playerAt(2, midst, 10), ballBelow}, list{playerAt(2, midst, 5), ballBelow}},
		{list{playerAt(2, midst, 10), noBall}, list{playerAt(2, midst, 10), noBall}},
		{list{deadAt(2, midst, 0)}, list{deadAt(2, midst, -1)}},
		{list{deadAt(2, midst, farAbove)}, list{deadAt(2, midst, farAbove-1)}},
		{list{ball, playerAt(2, midst, 10)}, list{ball, playerAt(2, midst, 5)}},
		{list{playerAt(2, midst, 10), ball, playerAt(2, midst, 20), ball}, list{deadAt(2, midst, 19), ball, playerAt(2, midst, 10), ball}},
	})
	for _, wait := range []int{farBelow, -20, -1, 0} {
		if w := Tick(hall.world(t, 77, 5, deadAt(2, midst, wait))); w.State != 77 || w.Tick != 6 || w.L[0].Health != 0 || w.L[0].At != midst {
			t.Errorf("one that waits %d ticks: %v", wait, w)
		}
	}
}
