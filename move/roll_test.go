package move

import (
	"testing"

	"ricochet/api"
)

// roll is a ball's step: from where, by what, and what is behind it.
type roll struct {
	from, by api.Vec
	to, vel  api.Vec
}

func checkRolls(t *testing.T, c chart, l []roll) {
	t.Helper()
	m := c.read(t)
	for _, x := range l {
		checkRoll(t, m, ballAt(x.from, x.by), ballAt(x.to, x.vel))
	}
}

func TestRollInTheMidst(t *testing.T) {
	checkRolls(t, "o..../...../...../...../", []roll{
		{at(163840, 98304), at(20000, 0), at(183840, 98304), at(20000, 0)},
		{at(163840, 98304), at(-20000, 0), at(143840, 98304), at(-20000, 0)},
		{at(163840, 98304), at(0, 20000), at(163840, 118304), at(0, 20000)},
		{at(163840, 98304), at(0, -20000), at(163840, 78304), at(0, -20000)},
		{at(163840, 98304), at(1, -1), at(163841, 98303), at(1, -1)},
		{at(163840, 98304), at(16384, -16383), at(180224, 81921), at(16384, -16383)},
		{at(163840, 98304), at(0, 0), at(163840, 98304), at(0, 0)},
		// The greatest speeds that a ball may have.
		{at(163840, 98304), at(65536, 65536), at(229376, 163840), at(65536, 65536)},
		{at(163840, 98304), at(-65536, -65536), at(98304, 32768), at(-65536, -65536)},
		{at(163840, 98304), at(65536, -65536), at(229376, 32768), at(65536, -65536)},
		{at(163840, 98304), at(-65536, 65535), at(98304, 163839), at(-65536, 65535)},
	})
}

func TestRollToAWallsEdge(t *testing.T) {
	checkRolls(t, room, []roll{
		// Just to the edge, one further, and one less; to the left, right, up and down.
		{at(110112, 98304), at(-20000, 0), at(90112, 98304), at(-20000, 0)},
		{at(110111, 98304), at(-20000, 0), at(110111, 98304), at(20000, 0)},
		{at(110113, 98304), at(-20000, 0), at(90113, 98304), at(-20000, 0)},
		{at(217568, 98304), at(20000, 0), at(237568, 98304), at(20000, 0)},
		{at(217569, 98304), at(20000, 0), at(217569, 98304), at(-20000, 0)},
		{at(217567, 98304), at(20000, 0), at(237567, 98304), at(20000, 0)},
		{at(98304, 110112), at(0, -20000), at(98304, 90112), at(0, -20000)},
		{at(98304, 110111), at(0, -20000), at(98304, 110111), at(0, 20000)},
		{at(98304, 110113), at(0, -20000), at(98304, 90113), at(0, -20000)},
		{at(98304, 217568), at(0, 20000), at(98304, 237568), at(0, 20000)},
		{at(98304, 217569), at(0, 20000), at(98304, 217569), at(0, -20000)},
		{at(98304, 217567), at(0, 20000), at(98304, 237567), at(0, 20000)},
		// By the least steps, at the edge.
		{at(90112, 98304), at(-1, 0), at(90112, 98304), at(1, 0)},
		{at(90113, 98304), at(-1, 0), at(90112, 98304), at(-1, 0)},
		{at(237568, 98304), at(1, 0), at(237568, 98304), at(-1, 0)},
		{at(98304, 90112), at(0, -1), at(98304, 90112), at(0, 1)},
		{at(98304, 237568), at(0, 1), at(98304, 237568), at(0, -1)},
		// A step by One towards a wall that is nearer: none is taken.
		{at(221184, 98304), at(65536, 0), at(221184, 98304), at(-65536, 0)},
		{at(98304, 98304), at(-65536, 0), at(98304, 98304), at(65536, 0)},
		{at(98304, 163840), at(65536, 0), at(98304, 163840), at(-65536, 0)},
		{at(163840, 98304), at(0, 65536), at(163840, 98304), at(0, -65536)},
		{at(98304, 98304), at(-65536, -65536), at(98304, 98304), at(65536, 65536)},
		// A step by One just to the edge.
		{at(172032, 98304), at(65536, 0), at(237568, 98304), at(65536, 0)},
		{at(172033, 98304), at(65536, 0), at(172033, 98304), at(-65536, 0)},
	})
}

// Only that number is turned about in whose direction it was blocked.
func TestRollAlongWalls(t *testing.T) {
	checkRolls(t, room, []roll{
		// In x alone.
		{at(90112, 98304), at(-300, 200), at(90112, 98504), at(300, 200)},
		{at(237568, 98304), at(300, -200), at(237568, 98104), at(-300, -200)},
		{at(106496, 163840), at(7, -9), at(106496, 163831), at(-7, -9)},
		// In y alone.
		{at(98304, 90112), at(300, -200), at(98604, 90112), at(300, 200)},
		{at(98304, 237568), at(-300, 200), at(98004, 237568), at(-300, -200)},
		{at(163840, 221184), at(9, -7), at(163849, 221184), at(9, 7)},
		// In both.
		{at(90112, 90112), at(-300, -200), at(90112, 90112), at(300, 200)},
		{at(237568, 237568), at(300, 200), at(237568, 237568), at(-300, -200)},
		{at(237568, 90112), at(300, -200), at(237568, 90112), at(-300, 200)},
		{at(90112, 237568), at(-300, 200), at(90112, 237568), at(300, -200)},
		// At rest in one direction, blocked in the other one.
		{at(90112, 98304), at(-300, 0), at(90112, 98304), at(300, 0)},
		{at(98304, 90112), at(0, -300), at(98304, 90112), at(0, 300)},
	})
}

// A corner that neither direction alone leads into: x comes first.
func TestRollAslantIntoACorner(t *testing.T) {
	checkRolls(t, room, []roll{
		{at(106496, 106496), at(20000, 20000), at(126496, 106496), at(20000, -20000)},
		{at(221184, 106496), at(-20000, 20000), at(201184, 106496), at(-20000, -20000)},
		{at(106496, 221184), at(20000, -20000), at(126496, 221184), at(20000, 20000)},
		{at(221184, 221184), at(-20000, -20000), at(201184, 221184), at(-20000, 20000)},
		{at(106496, 106496), at(1, 1), at(106497, 106496), at(1, -1)},
		{at(106495, 106495), at(1, 1), at(106496, 106496), at(1, 1)},
		// A step in x makes room for the one in y, though not the other way about.
		{at(114688, 106496), at(-8192, 1), at(106496, 106497), at(-8192, 1)},
		{at(114688, 106496), at(-8191, 1), at(106497, 106496), at(-8191, -1)},
		{at(106496, 106497), at(1, -1), at(106496, 106496), at(-1, -1)},
	})
}

// rollAll holds a row of steps, each behind the one before, against places that
// are told.
func rollAll(t *testing.T, c chart, e api.Entity, places []api.Vec) {
	t.Helper()
	m := c.read(t)
	for i, place := range places {
		e = Roll(m, e)
		if e.At != place {
			t.Fatalf("the ball is at %v behind %d steps, not at %v", e.At, i+1, place)
		}
	}
}

// A ball goes to and fro: the step in which it is turned about leads nowhere.
func TestToAndFro(t *testing.T) {
	rollAll(t, "#o.#/", ballAt(at(98304, 32768), at(30000, 0)), []api.Vec{
		at(128304, 32768), at(158304, 32768), at(158304, 32768), at(128304, 32768), at(98304, 32768),
		at(98304, 32768), at(128304, 32768), at(158304, 32768), at(158304, 32768), at(128304, 32768),
	})
	rollAll(t, "o/./", ballAt(at(32768, 32768), at(0, -65536)), []api.Vec{
		at(32768, 32768), at(32768, 98304), at(32768, 98304), at(32768, 32768), at(32768, 32768), at(32768, 98304),
	})
	// In x it is turned about each third step, in y each second one.
	rollAll(t, "o../.../", ballAt(at(32768, 32768), at(65536, 65536)), []api.Vec{
		at(98304, 98304), at(163840, 98304), at(163840, 32768), at(98304, 32768), at(32768, 98304),
		at(32768, 98304), at(98304, 32768), at(163840, 32768), at(163840, 98304), at(98304, 98304),
	})
	// Where there is no room at all it stays, and is turned about each time.
	m := chart("o/").read(t)
	e := ballAt(at(32768, 32768), at(8193, -65536))
	for range 5 {
		checkRoll(t, m, e, ballAt(at(32768, 32768), at(-8193, 65536)))
		checkRoll(t, m, Roll(m, e), e)
		e = Roll(m, Roll(m, e))
	}
}

// Walls turn a ball about; a player's Vel is what it entered.
func TestAPlayerIsNotTurnedAbout(t *testing.T) {
	m := room.read(t)
	e := playerAt(at(90112, 90112))
	for range 3 {
		want := e
		want.Vel = at(-16384, -16384)
		checkWalk(t, m, e, -127, -127, want)
		e = want
	}
}
