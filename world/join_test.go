package world

import (
	"slices"
	"testing"

	"ricochet/api"
)

// strangers are IDs that no player has.
func strangers() []int {
	return []int{farBelow, -1 << 32, -9, -8, -1, 0, 9, 10, 16, 17, 1<<32 + 1, farAbove}
}

func checkJoin(t *testing.T, w World, id int, wantErrno api.Errno, want World) {
	t.Helper()
	got, e := Join(w, id)
	checkErrno(t, "Join", e, wantErrno)
	checkWorld(t, "Join", got, want)
}

func checkLeave(t *testing.T, w World, id int, wantErrno api.Errno, want World) {
	t.Helper()
	got, e := Leave(w, id)
	checkErrno(t, "Leave", e, wantErrno)
	checkWorld(t, "Leave", got, want)
}

// Players that join and leave in a world of the seed 7; a script that knows nothing
// of this program worked out where each of them comes in.
func TestJoinAndLeave(t *testing.T) {
	c := chart("o.o/.#./..o/")
	first, second, third := at(half, half), at(2*one+half, half), at(2*one+half, 2*one+half)
	balls := []api.Entity{ballAt(9, first, at(3746, -15889)), ballAt(10, first, at(-9051, -12835))}
	world := func(state uint64, players ...api.Entity) World {
		return c.world(t, state, 0, append(players, balls...)...)
	}
	one, two, three := playerAt(1, first, 100), playerAt(2, second, 100), playerAt(3, third, 100)
	five, eight := playerAt(5, second, 100), playerAt(8, third, 100)
	w, e := New(c.read(t), 7, 2)
	checkErrno(t, "New", e, 0)
	for _, x := range []struct {
		id   int
		want World
	}{
		{5, world(0x538454127b09649a, five)},
		{1, world(0xf1bbcdcbfa53e0af, one, five)},
		{8, world(0x8ff34785799e5cc4, one, five, eight)},
		{3, world(0x2e2ac13ef8e8d8d9, one, three, five, eight)},
		{-5, world(0x2e2ac13ef8e8d8d9, one, three, eight)},
		{5, world(0xcc623af8783354ee, one, three, five, eight)},
		{2, world(0x6a99b4b1f77dd103, one, two, three, five, eight)},
		{-1, world(0x6a99b4b1f77dd103, two, three, five, eight)},
		{-8, world(0x6a99b4b1f77dd103, two, three, five)},
		{-3, world(0x6a99b4b1f77dd103, two, five)},
		{-2, world(0x6a99b4b1f77dd103, five)},
		{-5, world(0x6a99b4b1f77dd103)},
	} {
		if x.id > 0 {
			checkJoin(t, w, x.id, 0, x.want)
		} else {
			checkLeave(t, w, -x.id, 0, x.want)
		}
		w = x.want
	}
}

// orders calls f with all orders of l.
func orders(l []int, f func([]int)) {
	var from func(int)
	from = func(i int) {
		if i == len(l) {
			f(l)
			return
		}
		for j := i; j < len(l); j++ {
			l[i], l[j] = l[j], l[i]
			from(i + 1)
			l[i], l[j] = l[j], l[i]
		}
	}
	from(0)
}

// All eight players, in each order: the IDs rise whoever came first, and the
// spawns are drawn in the order in which they came.
func TestJoinInEachOrder(t *testing.T) {
	m := chart("o.o/.#./..o/").read(t)
	start, _ := New(m, 31, 2)
	var spawns []api.Vec
	l := begin(m, 31, 2)
	for id := 1; id <= 8; id++ {
		l.join(id)
		spawns = append(spawns, l.who[id].At)
	}
	end := l.world()
	orders([]int{1, 2, 3, 4, 5, 6, 7, 8}, func(ids []int) {
		w := start
		for i, id := range ids {
			end.L[id-1].At = spawns[i]
			var e api.Errno
			if w, e = Join(w, id); e != 0 {
				t.Fatalf("%d of %v joins: error %d", id, ids, e)
			}
		}
		if w.State != end.State || w.Tick != end.Tick || !slices.Equal(w.L, end.L) {
			checkWorld(t, "those who joined", w, end)
		}
	})
}

// One who leaves is gone, whoever stays.
func TestLeaveInEachOrder(t *testing.T) {
	l := begin(chart("o.o/.#./..o/").read(t), 31, 1)
	for id := 1; id <= 5; id++ {
		l.join(id)
	}
	full := *l
	orders([]int{1, 2, 3, 4, 5}, func(ids []int) {
		*l = full
		for _, id := range ids {
			w := l.world()
			l.leave(id)
			checkLeave(t, w, id, 0, l.world())
		}
	})
}

// Who comes in is drawn by chance even where there is one spawn alone.
func TestTheStateGoesOnAtEachJoin(t *testing.T) {
	for _, c := range charts() {
		w := c.world(t, 1<<64-5, 17)
		for i, id := range []int{4, 8, 1, 7, 2, 3, 6, 5} {
			w, _ = Join(w, id)
			if want := uint64(i+1) * step; w.State != 1<<64-5+want {
				t.Errorf("the state is %#x behind %d", w.State, i+1)
			}
			if w.Tick != 17 {
				t.Errorf("the tick is %d", w.Tick)
			}
		}
		before := w.State
		for _, id := range []int{2, 8, 5} {
			if w, _ = Leave(w, id); w.State != before {
				t.Errorf("the state goes on when %d leaves", id)
			}
		}
	}
}

func TestJoinOfWhoIsNoPlayer(t *testing.T) {
	for _, balls := range []int{0, 1, 8} {
		l := begin(chart("o.o/.#./..o/").read(t), 31, balls)
		for _, players := range []int{0, 2, 8} {
			for id := 1; id <= players; id++ {
				l.join(id)
			}
			for _, id := range strangers() {
				checkJoin(t, l.world(), id, api.ErrArg, l.world())
				checkLeave(t, l.world(), id, api.ErrNone, l.world())
			}
		}
	}
}

// Nobody joins twice, be it dead or hurt, and nobody leaves twice.
func TestJoinAndLeaveTwice(t *testing.T) {
	midst := at(half, half)
	for id := 1; id <= 8; id++ {
		for _, e := range []api.Entity{playerAt(id, midst, 100), goes(playerAt(id, midst, 1), at(5, -7)), deadAt(id, midst, 20), deadAt(id, midst, 1)} {
			alone := chart("o/").world(t, 9, 4, e)
			checkJoin(t, alone, id, api.ErrState, alone)
			nobody := chart("o/").world(t, 9, 4)
			checkLeave(t, alone, id, 0, nobody)
			checkLeave(t, nobody, id, api.ErrNone, nobody)
			again := chart("o/").world(t, 9+step, 4, playerAt(id, midst, 100))
			checkJoin(t, nobody, id, 0, again)
		}
	}
}

// A map without a spawn has no place to draw: one comes in all the same.
func TestJoinWithoutASpawn(t *testing.T) {
	for _, m := range unreadable(t) {
		if len(m.Spawns) > 0 {
			continue
		}
		w := World{m, 77, 3, []api.Entity{playerAt(2, at(half, half), 40)}}
		want := World{m, 77, 3, []api.Entity{playerAt(1, at(0, 0), 100), playerAt(2, at(half, half), 40)}}
		checkJoin(t, w, 1, 0, want)
		checkLeave(t, want, 1, 0, w)
	}
}

// A spawn is drawn from a map that can't be read, if it has one.
func TestJoinAtASpawnOfAMapThatCannotBeRead(t *testing.T) {
	for _, m := range unreadable(t) {
		if len(m.Spawns) == 0 {
			continue
		}
		l := &ledger{m: m, state: 77}
		w := l.world()
		for id := 8; id >= 1; id-- {
			l.join(id)
			checkJoin(t, w, id, 0, l.world())
			w = l.world()
		}
	}
}

// An ID that is in use is not given once more, even where it is no player's; there
// is nobody to leave then.
func TestJoinWhereTheIDIsInUse(t *testing.T) {
	for _, kind := range []int{farBelow, 0, 2, 3, farAbove} {
		w := chart("o/").world(t, 9, 4, api.Entity{ID: 3, Kind: kind, At: at(half, half), Health: 100})
		checkJoin(t, w, 3, api.ErrState, w)
		checkLeave(t, w, 3, api.ErrNone, w)
	}
}

// Of lists that are out of order the first one with an ID counts, and who comes in
// stands ahead of the first greater ID.
func TestJoinAndLeaveOutOfOrder(t *testing.T) {
	midst := at(half, half)
	two, other, seven, ball := playerAt(2, midst, 10), playerAt(2, midst, 90), playerAt(7, midst, 50), ballAt(9, midst, at(1, 2))
	c := chart("o/")
	w := c.world(t, 0, 0, ball, seven, two, other)
	checkJoin(t, w, 8, 0, c.world(t, step, 0, playerAt(8, midst, 100), ball, seven, two, other))
	checkJoin(t, w, 2, api.ErrState, w)
	checkLeave(t, w, 2, 0, c.world(t, 0, 0, ball, seven, other))
	checkLeave(t, w, 7, 0, c.world(t, 0, 0, ball, two, other))
	checkLeave(t, w, 9, api.ErrNone, w)
	w = c.world(t, 0, 0, seven, two)
	checkJoin(t, w, 3, 0, c.world(t, step, 0, playerAt(3, midst, 100), seven, two))
	checkJoin(t, w, 8, 0, c.world(t, step, 0, seven, two, playerAt(8, midst, 100)))
}
