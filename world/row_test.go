package world

import (
	"testing"

	"ricochet/api"
)

// row is what a script that knows nothing of this program worked out.
var row = []World{
	{State: 0x6a99b4b1f77dd13c, Tick: 0, L: []api.Entity{
		playerAt(1, at(32768, 163840), 100),
		playerAt(2, at(229376, 163840), 100),
		playerAt(7, at(229376, 32768), 100),
		ballAt(9, at(229376, 163840), at(-11152, 10048)),
		ballAt(10, at(32768, 163840), at(-14356, 11262)),
		ballAt(11, at(229376, 32768), at(5955, -13872)),
	}},
	{State: 0x6a99b4b1f77dd13c, Tick: 1, L: []api.Entity{
		playerAt(1, at(32768, 163840), 95),
		goes(playerAt(2, at(229376, 163840), 95), at(16384, 0)),
		goes(playerAt(7, at(221635, 49152), 95), at(-7741, 16384)),
		ballAt(9, at(218224, 163840), at(-11152, -10048)),
		ballAt(10, at(32768, 163840), at(14356, -11262)),
		ballAt(11, at(235331, 32768), at(5955, 13872)),
	}},
	{State: 0x6a99b4b1f77dd13c, Tick: 2, L: []api.Entity{
		playerAt(1, at(32768, 163840), 90),
		goes(playerAt(2, at(229376, 147456), 90), at(16384, -16384)),
		goes(playerAt(7, at(221635, 49152), 90), at(-7741, 16384)),
		ballAt(9, at(207072, 163840), at(-11152, 10048)),
		ballAt(10, at(47124, 163840), at(14356, 11262)),
		ballAt(11, at(235331, 46640), at(-5955, 13872)),
	}},
	{State: 0x6a99b4b1f77dd13c, Tick: 3, L: []api.Entity{
		goes(playerAt(1, at(32897, 163710), 85), at(129, -130)),
		goes(playerAt(2, at(229376, 147456), 85), at(16384, -16384)),
		goes(playerAt(7, at(221635, 49152), 55), at(-7741, 16384)),
		ballAt(9, at(195920, 163840), at(-11152, -10048)),
		ballAt(10, at(61480, 163840), at(14356, -11262)),
		ballAt(11, at(229376, 60512), at(-5955, 13872)),
	}},
	{State: 0x6a99b4b1f77dd13c, Tick: 12, L: []api.Entity{
		goes(playerAt(1, at(32897, 163710), 80), at(129, -130)),
		goes(playerAt(2, at(229376, 147456), 40), at(16384, -16384)),
		goes(playerAt(7, at(221635, 49152), 45), at(-7741, 16384)),
		ballAt(9, at(95552, 163840), at(-11152, 10048)),
		ballAt(10, at(190684, 163840), at(14356, 11262)),
		ballAt(11, at(211511, 171488), at(-5955, -13872)),
	}},
	{State: 0x6a99b4b1f77dd13c, Tick: 25, L: []api.Entity{
		goes(playerAt(1, at(32897, 163710), 40), at(129, -130)),
		deadAt(2, at(229376, 147456), 10),
		goes(playerAt(7, at(221635, 49152), 20), at(-7741, 16384)),
		ballAt(9, at(39792, 83456), at(-11152, -10048)),
		ballAt(10, at(233752, 51220), at(14356, -11262)),
		ballAt(11, at(134096, 157616), at(-5955, -13872)),
	}},
	{State: 0x08d12e6b76c84d51, Tick: 40, L: []api.Entity{
		deadAt(1, at(32897, 163710), 19),
		playerAt(2, at(229376, 163840), 100),
		deadAt(7, at(221635, 49152), 8),
		ballAt(9, at(39792, 123648), at(11152, 10048)),
		ballAt(10, at(32768, 28696), at(-14356, 11262)),
		ballAt(11, at(44771, 171488), at(-5955, -13872)),
	}},
	{State: 0xa708a824f612c966, Tick: 50, L: []api.Entity{
		deadAt(1, at(32897, 163710), 9),
		playerAt(2, at(229376, 163840), 5),
		ballAt(9, at(106704, 163840), at(11152, 10048)),
		ballAt(10, at(161972, 39958), at(14356, -11262)),
		ballAt(11, at(26906, 32768), at(5955, -13872)),
	}},
	{State: 0xa708a824f612c966, Tick: 51, L: []api.Entity{
		deadAt(1, at(32897, 163710), 8),
		playerAt(2, at(229376, 163840), 5),
		ballAt(9, at(117856, 163840), at(11152, -10048)),
		ballAt(10, at(176328, 28696), at(14356, -11262)),
		ballAt(11, at(32861, 32768), at(5955, 13872)),
	}},
	{State: 0xe3779b97f4a7c190, Tick: 60, L: []api.Entity{
		playerAt(1, at(229376, 32768), 100),
		deadAt(2, at(229376, 163840), 16),
		playerAt(7, at(32768, 163840), 100),
		ballAt(9, at(218224, 163840), at(11152, 10048)),
		ballAt(10, at(176328, 28696), at(-14356, 11262)),
		ballAt(11, at(32861, 157616), at(-5955, 13872)),
	}},
	{State: 0xe3779b97f4a7c190, Tick: 61, L: []api.Entity{
		deadAt(1, at(229376, 32768), 20),
		deadAt(2, at(229376, 163840), 15),
		playerAt(7, at(32768, 163840), 95),
		ballAt(9, at(229376, 163840), at(11152, -10048)),
		ballAt(10, at(161972, 39958), at(-14356, 11262)),
		ballAt(11, at(26906, 171488), at(-5955, 13872)),
	}},
	{State: 0x81af155173f23da5, Tick: 80, L: []api.Entity{
		deadAt(1, at(229376, 32768), 1),
		playerAt(2, at(229376, 32768), 90),
		playerAt(7, at(32768, 163840), 35),
		ballAt(9, at(162464, 33216), at(-11152, -10048)),
		ballAt(10, at(32768, 163840), at(-14356, 11262)),
		ballAt(11, at(26906, 129872), at(5955, 13872)),
	}},
	{State: 0x1fe68f0af33cb9ba, Tick: 81, L: []api.Entity{
		playerAt(1, at(32768, 163840), 100),
		playerAt(2, at(229376, 32768), 90),
		playerAt(7, at(32768, 163840), 25),
		ballAt(9, at(151312, 33216), at(-11152, 10048)),
		ballAt(10, at(32768, 163840), at(14356, -11262)),
		ballAt(11, at(32861, 143744), at(5955, 13872)),
	}},
	{State: 0x98c475f0f066aa0e, Tick: 200, L: []api.Entity{
		deadAt(1, at(32768, 32768), 13),
		playerAt(2, at(229376, 163840), 5),
		deadAt(7, at(32768, 32768), 17),
		ballAt(9, at(129008, 163840), at(11152, 10048)),
		ballAt(10, at(32768, 28696), at(-14356, 11262)),
		ballAt(11, at(26906, 102128), at(5955, 13872)),
	}},
}

// doInRow is what was done ahead of each tick of that row.
func doInRow(t *testing.T, w World) World {
	t.Helper()
	join := func(ids ...int) {
		for _, id := range ids {
			var e api.Errno
			w, e = Join(w, id)
			checkErrno(t, "Join", e, 0)
		}
	}
	switch w.Tick {
	case 0:
		join(2, 7, 1)
	case 1:
		w = Go(w, enters(127, 0), 2)
		w = Go(w, enters(-60, 127), 7)
	case 2:
		w = Go(w, enters(127, -127), 2)
	case 3:
		w = Go(w, enters(1, -1), 1)
		w = Hit(w, 7, 30)
	case 50:
		var e api.Errno
		w = Hit(w, 2, 95)
		w, e = Leave(w, 7)
		checkErrno(t, "Leave", e, 0)
	case 60:
		join(7)
	case 61:
		w = Hit(w, 1, 100)
	}
	return w
}

// Three balls and three players, who walk, are hit, die, leave, and come again.
func TestARowOfTicks(t *testing.T) {
	m := chart("o..o/.##./o..o/").read(t)
	w, e := New(m, 64, 3)
	checkErrno(t, "New", e, 0)
	for _, want := range row {
		want.Map = m
		for range want.Tick - w.Tick {
			w = Tick(doInRow(t, w))
		}
		checkWorld(t, "behind what is done", doInRow(t, w), want)
	}
}
