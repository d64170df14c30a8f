package world

import (
	"testing"

	"ricochet/api"
)

func checkHit(t *testing.T, w World, id, by int, want World) {
	t.Helper()
	checkWorld(t, "Hit", Hit(w, id, by), want)
}

// hits is a world in which the player 2 is as e, beside others.
func hits(t *testing.T, e api.Entity) World {
	others := []api.Entity{goes(playerAt(1, at(half, half), 30), at(-7, 9)), e, deadAt(3, at(40000, 30000), 4), ballAt(9, at(half, half), at(3, -2))}
	return chart("oo/").world(t, 5, 11, others...)
}

func TestHit(t *testing.T) {
	place, vel := at(50000, 30000), at(16384, -130)
	for _, x := range []struct{ health, by, left int }{
		{100, 1, 99}, {100, 5, 95}, {100, 50, 50}, {100, 98, 2}, {100, 99, 1}, {60, 59, 1}, {60, 58, 2}, {7, 3, 4}, {2, 1, 1},
	} {
		e, want := goes(playerAt(2, place, x.health), vel), goes(playerAt(2, place, x.left), vel)
		checkHit(t, hits(t, e), 2, x.by, hits(t, want))
	}
}

// Who is hit by its health, or by more, is dead: at rest, where it was.
func TestHitToDeath(t *testing.T) {
	place := at(50000, 30000)
	for _, x := range []struct{ health, by int }{
		{100, 100}, {100, 101}, {100, 200}, {60, 60}, {60, 61}, {5, 5}, {5, 6}, {1, 1}, {1, 2}, {1, 100}, {100, 1 << 32}, {100, farAbove}, {1, farAbove},
	} {
		e := goes(playerAt(2, place, x.health), at(16384, -130))
		checkHit(t, hits(t, e), 2, x.by, hits(t, deadAt(2, place, 20)))
	}
}

// All healths, by all hits up to one more than the greatest.
func TestAllHits(t *testing.T) {
	l := begin(chart("oo/").read(t), 3, 1)
	l.join(6)
	for health := 1; health <= 100; health++ {
		for by := -1; by <= 101; by++ {
			l.who[6] = goes(playerAt(6, at(one, half), health), at(5, 6))
			w := l.world()
			l.hit(6, by)
			if got := Hit(w, 6, by); !Same(got, l.world()) {
				checkWorld(t, "Hit", got, l.world())
			}
		}
	}
}

func TestHitByNothing(t *testing.T) {
	for _, by := range []int{farBelow, -1 << 32, -101, -100, -5, -1, 0} {
		for _, health := range []int{1, 5, 100} {
			w := hits(t, goes(playerAt(2, at(50000, 30000), health), at(1, 1)))
			checkHit(t, w, 2, by, w)
		}
	}
}

// Who is dead waits no longer when it is hit once more.
func TestHitOfTheDead(t *testing.T) {
	for wait := 1; wait <= 20; wait++ {
		w := hits(t, deadAt(2, at(50000, 30000), wait))
		for _, by := range []int{farBelow, 0, 1, 5, 100, farAbove} {
			checkHit(t, w, 2, by, w)
			checkHit(t, w, 3, by, w)
		}
	}
}

func TestHitOfNoPlayer(t *testing.T) {
	w := hits(t, playerAt(2, at(50000, 30000), 100))
	for _, id := range append(strangers(), 4, 5, 6, 7, 8) {
		for _, by := range []int{farBelow, 0, 1, 5, 100, farAbove} {
			checkHit(t, w, id, by, w)
		}
	}
}

// Each of all players is hit alone.
func TestEachIsHitAlone(t *testing.T) {
	l := begin(chart("o.o/.#./..o/").read(t), 3, 8)
	for id := 1; id <= 8; id++ {
		l.join(id)
	}
	for _, id := range []int{1, 8, 4, 2, 7, 3, 6, 5} {
		for _, by := range []int{id, 60, 100} {
			w := l.world()
			l.hit(id, by)
			checkHit(t, w, id, by, l.world())
		}
	}
}

// Of players that aren't formed, the first one with an ID counts, and what would be
// left of a health is not reckoned round.
func TestHitOfWhoIsNotFormed(t *testing.T) {
	place := at(one, half)
	hurt := func(health int) api.Entity { return playerAt(2, place, health) }
	for _, x := range []struct {
		e    api.Entity
		by   int
		want api.Entity
	}{
		{hurt(farBelow), 1, deadAt(2, place, 20)},
		{hurt(farBelow), farAbove, deadAt(2, place, 20)},
		{hurt(-1), 1, deadAt(2, place, 20)},
		{hurt(-1), 0, hurt(-1)},
		{hurt(-1), -1, hurt(-1)},
		{hurt(101), 1, hurt(100)},
		{hurt(farAbove), 1, hurt(farAbove - 1)},
		{hurt(farAbove), farAbove - 1, hurt(1)},
		{hurt(farAbove), farAbove, deadAt(2, place, 20)},
	} {
		checkHit(t, hits(t, x.e), 2, x.by, hits(t, x.want))
	}
	c := chart("oo/")
	checkHit(t, c.world(t, 0, 0, hurt(50), hurt(60)), 2, 10, c.world(t, 0, 0, hurt(40), hurt(60)))
	checkHit(t, c.world(t, 0, 0, playerAt(7, place, 9), hurt(60)), 2, 10, c.world(t, 0, 0, playerAt(7, place, 9), hurt(50)))
	for _, m := range unreadable(t) {
		checkHit(t, World{m, 1, 2, []api.Entity{hurt(50)}}, 2, 10, World{m, 1, 2, []api.Entity{hurt(40)}})
	}
}
