package move

import (
	"testing"

	"ricochet/api"
)

// walk is a player's step: from where, by what, and what is behind it.
type walk struct {
	from   api.Vec
	mx, my int8
	to     api.Vec
	vel    api.Vec
}

func checkWalks(t *testing.T, c chart, l []walk) {
	t.Helper()
	m := c.read(t)
	for _, x := range l {
		want := playerAt(x.to)
		want.Vel = x.vel
		checkWalk(t, m, playerAt(x.from), x.mx, x.my, want)
	}
}

func TestWalkInTheMidst(t *testing.T) {
	checkWalks(t, "o..../...../...../", []walk{
		{at(163840, 98304), 127, 0, at(180224, 98304), at(16384, 0)},
		{at(163840, 98304), -127, 0, at(147456, 98304), at(-16384, 0)},
		{at(163840, 98304), 0, 127, at(163840, 114688), at(0, 16384)},
		{at(163840, 98304), 0, -127, at(163840, 81920), at(0, -16384)},
		{at(163840, 98304), 127, 127, at(180224, 114688), at(16384, 16384)},
		{at(163840, 98304), 127, -127, at(180224, 81920), at(16384, -16384)},
		{at(163840, 98304), -127, 127, at(147456, 114688), at(-16384, 16384)},
		{at(163840, 98304), -127, -127, at(147456, 81920), at(-16384, -16384)},
		{at(163840, 98304), 0, 0, at(163840, 98304), at(0, 0)},
		{at(163840, 98304), 64, -63, at(172096, 90176), at(8256, -8128)},
		{at(163840, 98304), -3, 100, at(163452, 111204), at(-388, 12900)},
		{at(163841, 98307), 126, 32, at(180095, 102435), at(16254, 4128)},
	})
}

// Speeds that were worked out by a script, below 0 too, where they are rounded
// down and not towards 0.
func TestSpeeds(t *testing.T) {
	m := chart("o../.../.../").read(t)
	midst := at(98304, 98304)
	for share, speed := range map[int8]api.Fix{
		-127: -16384, -126: -16255, -100: -12901, -64: -8257, -63: -8128, -32: -4129, -8: -1033, -3: -388, -2: -259, -1: -130,
		0: 0, 1: 129, 2: 258, 3: 387, 8: 1032, 32: 4128, 63: 8127, 64: 8256, 100: 12900, 126: 16254, 127: 16384,
	} {
		want := playerAt(at(midst.X+speed, midst.Y))
		want.Vel = at(speed, 0)
		checkWalk(t, m, playerAt(midst), share, 0, want)
		want = playerAt(at(midst.X, midst.Y+speed))
		want.Vel = at(0, speed)
		checkWalk(t, m, playerAt(midst), 0, share, want)
	}
}

// All that may be entered, with each other one.
func TestAllWays(t *testing.T) {
	c := chart("o../.../.../")
	m := c.read(t)
	e := playerAt(at(98304, 98304))
	for mx := -127; mx <= 127; mx++ {
		for my := -127; my <= 127; my++ {
			want := e
			want.Vel = at(share(int8(mx)), share(int8(my)))
			want.At = at(98304+want.Vel.X, 98304+want.Vel.Y)
			checkWalk(t, m, e, int8(mx), int8(my), want)
		}
	}
}

// What is -128 stops the whole step, the other direction too, and leaves Vel.
func TestTheWayThatHasNoSpeed(t *testing.T) {
	m := chart("o../.../.../").read(t)
	e := playerAt(at(98304, 98304))
	e.Vel = at(-5, 7)
	for _, other := range []int8{-128, -127, -1, 0, 1, 64, 127} {
		checkWalk(t, m, e, -128, other, e)
		checkWalk(t, m, e, other, -128, e)
	}
}

// The room has floors 1 to 3 in both directions, but for 2, 2: one stands free in
// it from 90112 to 237568, and beside the wall in its midst to 106496 or from
// 221184 on.
const room = chart("#####/#o..#/#.#.#/#...#/#####/")

func TestWalkToAWallsEdge(t *testing.T) {
	checkWalks(t, room, []walk{
		// Just to the edge, one further, and one less; to the left, right, up and down.
		{at(106496, 98304), -127, 0, at(90112, 98304), at(-16384, 0)},
		{at(106495, 98304), -127, 0, at(106495, 98304), at(-16384, 0)},
		{at(106497, 98304), -127, 0, at(90113, 98304), at(-16384, 0)},
		{at(221184, 98304), 127, 0, at(237568, 98304), at(16384, 0)},
		{at(221185, 98304), 127, 0, at(221185, 98304), at(16384, 0)},
		{at(221183, 98304), 127, 0, at(237567, 98304), at(16384, 0)},
		{at(98304, 106496), 0, -127, at(98304, 90112), at(0, -16384)},
		{at(98304, 106495), 0, -127, at(98304, 106495), at(0, -16384)},
		{at(98304, 106497), 0, -127, at(98304, 90113), at(0, -16384)},
		{at(98304, 221184), 0, 127, at(98304, 237568), at(0, 16384)},
		{at(98304, 221185), 0, 127, at(98304, 221185), at(0, 16384)},
		{at(98304, 221183), 0, 127, at(98304, 237567), at(0, 16384)},
		// By the least steps: what is blocked isn't led as far as there is room.
		{at(90112, 98304), -1, 0, at(90112, 98304), at(-130, 0)},
		{at(90241, 98304), -1, 0, at(90241, 98304), at(-130, 0)},
		{at(90242, 98304), -1, 0, at(90112, 98304), at(-130, 0)},
		{at(237568, 98304), 1, 0, at(237568, 98304), at(129, 0)},
		{at(237440, 98304), 1, 0, at(237440, 98304), at(129, 0)},
		{at(237439, 98304), 1, 0, at(237568, 98304), at(129, 0)},
		// Away from walls, and along them.
		{at(90112, 90112), 127, 0, at(106496, 90112), at(16384, 0)},
		{at(90112, 90112), 0, 127, at(90112, 106496), at(0, 16384)},
		{at(237568, 237568), -127, 0, at(221184, 237568), at(-16384, 0)},
		{at(237568, 237568), 0, -127, at(237568, 221184), at(0, -16384)},
		{at(106496, 163840), 0, 127, at(106496, 180224), at(0, 16384)},
		{at(106496, 163840), 1, 0, at(106496, 163840), at(129, 0)},
		{at(221184, 163840), -1, 0, at(221184, 163840), at(-130, 0)},
		{at(163840, 106496), -127, 1, at(147456, 106496), at(-16384, 129)},
		{at(163840, 221184), 127, -1, at(180224, 221184), at(16384, -130)},
	})
}

// Who is blocked in one direction goes on in the other one.
func TestWalkAlongWalls(t *testing.T) {
	checkWalks(t, room, []walk{
		// In x alone.
		{at(90112, 98304), -127, 64, at(90112, 106560), at(-16384, 8256)},
		{at(90112, 98304), -127, -32, at(90112, 94175), at(-16384, -4129)},
		{at(237568, 98304), 127, 64, at(237568, 106560), at(16384, 8256)},
		{at(106496, 163840), 127, -127, at(106496, 147456), at(16384, -16384)},
		// In y alone.
		{at(98304, 90112), 64, -127, at(106560, 90112), at(8256, -16384)},
		{at(98304, 90112), -32, -127, at(94175, 90112), at(-4129, -16384)},
		{at(98304, 237568), 64, 127, at(106560, 237568), at(8256, 16384)},
		{at(163840, 106496), -127, 127, at(147456, 106496), at(-16384, 16384)},
		// In both.
		{at(90112, 90112), -127, -127, at(90112, 90112), at(-16384, -16384)},
		{at(237568, 90112), 127, -127, at(237568, 90112), at(16384, -16384)},
		{at(90112, 237568), -127, 127, at(90112, 237568), at(-16384, 16384)},
		{at(237568, 237568), 127, 127, at(237568, 237568), at(16384, 16384)},
		{at(98304, 98304), -127, -127, at(98304, 98304), at(-16384, -16384)},
	})
}

// A corner that neither direction alone leads into: x comes first, and y is
// blocked then.
func TestWalkAslantIntoACorner(t *testing.T) {
	checkWalks(t, room, []walk{
		{at(106496, 106496), 127, 127, at(122880, 106496), at(16384, 16384)},
		{at(221184, 106496), -127, 127, at(204800, 106496), at(-16384, 16384)},
		{at(106496, 221184), 127, -127, at(122880, 221184), at(16384, -16384)},
		{at(221184, 221184), -127, -127, at(204800, 221184), at(-16384, -16384)},
		{at(106496, 106496), 1, 1, at(106625, 106496), at(129, 129)},
		{at(221184, 221184), -1, -1, at(221054, 221184), at(-130, -130)},
		// Past it by just as much as is needed, in one direction.
		{at(90112, 90112), 127, 127, at(106496, 106496), at(16384, 16384)},
		{at(90112, 90113), 127, 127, at(106496, 106497), at(16384, 16384)},
		{at(90113, 90112), 127, 127, at(106497, 106496), at(16384, 16384)},
		{at(90113, 90113), 127, 127, at(106497, 90113), at(16384, 16384)},
	})
}

// A step in x makes room for the one in y, though not the other way about.
func TestXMakesRoomForY(t *testing.T) {
	checkWalks(t, room, []walk{
		{at(114688, 106496), -127, 127, at(98304, 122880), at(-16384, 16384)},
		{at(114688, 106496), 0, 127, at(114688, 106496), at(0, 16384)},
		{at(212992, 106496), 127, 127, at(229376, 122880), at(16384, 16384)},
		{at(114688, 221184), -127, -127, at(98304, 204800), at(-16384, -16384)},
		{at(106496, 114688), 127, -127, at(106496, 98304), at(16384, -16384)},
		{at(106496, 98304), 127, 127, at(122880, 98304), at(16384, 16384)},
	})
}

// A map without a wall ends at its edges all the same.
func TestWalkAtTheMapsEdges(t *testing.T) {
	checkWalks(t, "o./../", []walk{
		{at(40960, 65536), -127, 0, at(24576, 65536), at(-16384, 0)},
		{at(40959, 65536), -127, 0, at(40959, 65536), at(-16384, 0)},
		{at(40961, 65536), -127, 0, at(24577, 65536), at(-16384, 0)},
		{at(90112, 65536), 127, 0, at(106496, 65536), at(16384, 0)},
		{at(90113, 65536), 127, 0, at(90113, 65536), at(16384, 0)},
		{at(90111, 65536), 127, 0, at(106495, 65536), at(16384, 0)},
		{at(65536, 40960), 0, -127, at(65536, 24576), at(0, -16384)},
		{at(65536, 40959), 0, -127, at(65536, 40959), at(0, -16384)},
		{at(65536, 40961), 0, -127, at(65536, 24577), at(0, -16384)},
		{at(65536, 90112), 0, 127, at(65536, 106496), at(0, 16384)},
		{at(65536, 90113), 0, 127, at(65536, 90113), at(0, 16384)},
		{at(65536, 90111), 0, 127, at(65536, 106495), at(0, 16384)},
	})
	// In a map of one tile there is room for 16384, and no more.
	checkWalks(t, "o/", []walk{
		{at(24576, 24576), 127, 127, at(40960, 40960), at(16384, 16384)},
		{at(24577, 24577), 127, 127, at(24577, 24577), at(16384, 16384)},
		{at(40960, 40960), -127, -127, at(24576, 24576), at(-16384, -16384)},
		{at(32768, 32768), 127, -127, at(32768, 32768), at(16384, -16384)},
		{at(32768, 32768), 63, -63, at(40895, 24640), at(8127, -8128)},
		{at(32768, 32768), 64, -64, at(32768, 32768), at(8256, -8257)},
	})
}
