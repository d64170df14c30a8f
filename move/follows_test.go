package move

import (
	"testing"

	"ricochet/api"
	"ricochet/entity"
)

// nearEdges are numbers around those at which a box comes to a tile's edge, from
// one side or the other.
func nearEdges(n api.Fix) []api.Fix {
	var l []api.Fix
	for i := range n + 1 {
		for _, edge := range []api.Fix{i*one - reach, i*one + reach} {
			l = append(l, edge-quarter, edge-1, edge, edge+1, edge+130)
		}
	}
	return l
}

// Steps from all places that are near edges, free or not, as the second telling
// has them.
func TestStepsNearEdges(t *testing.T) {
	shares := []int8{-127, -1, 0, 1, 127}
	speeds := []api.Fix{-65536, -16384, -1, 0, 1, 16385, 65536}
	for _, c := range []chart{"o#/", "#/o/", "o./.#/", ".o/#./", ".#/o./", "#./.o/", "o../.#./.../"} {
		m := c.read(t)
		w, h := c.sides()
		for _, x := range nearEdges(w) {
			for _, y := range nearEdges(h) {
				checkStands(t, m, at(x, y), c.free(at(x, y)))
				for _, mx := range shares {
					for _, my := range shares {
						e := playerAt(at(x, y))
						checkWalk(t, m, e, mx, my, c.walked(e, mx, my))
					}
				}
				for _, velX := range speeds {
					for _, velY := range speeds {
						e := ballAt(at(x, y), at(velX, velY))
						checkRoll(t, m, e, c.rolled(e))
					}
				}
			}
		}
	}
}

// Steps from anywhere, by anything.
func TestManySteps(t *testing.T) {
	r := rule(17)
	for _, c := range charts() {
		m := c.read(t)
		for range 400 {
			place := r.place(c)
			checkStands(t, m, place, c.free(place))
			player, mx, my := r.player(place), r.share(), r.share()
			checkWalk(t, m, player, mx, my, c.walked(player, mx, my))
			ball := r.ball(place)
			checkRoll(t, m, ball, c.rolled(ball))
		}
	}
}

// way is how far it is from a to b, whichever is the greater one.
func way(a, b api.Fix) api.Fix { return max(a-b, b-a) }

func size(a api.Fix) api.Fix { return way(a, 0) }

// checkWalkFollows asks of a step from a free place where it led.
func checkWalkFollows(t *testing.T, c chart, e, next api.Entity) {
	t.Helper()
	if !c.free(next.At) {
		t.Fatalf("%v stands free, and %v doesn't, on %q", e, next, c)
	}
	if !entity.Formed(next) {
		t.Fatalf("%v isn't formed", next)
	}
	if way(e.At.X, next.At.X) > quarter || way(e.At.Y, next.At.Y) > quarter {
		t.Fatalf("a step leads from %v to %v", e.At, next.At)
	}
	if size(next.Vel.X) > quarter || size(next.Vel.Y) > quarter {
		t.Fatalf("%v has the Vel %v behind a step", e, next.Vel)
	}
}

// checkRollFollows asks the same of a ball's step: it keeps its speed, and leads
// as far as that, or nowhere, in each direction.
func checkRollFollows(t *testing.T, c chart, e, next api.Entity) {
	t.Helper()
	if !c.free(next.At) {
		t.Fatalf("%v stands free, and %v doesn't, on %q", e, next, c)
	}
	if !entity.Formed(next) {
		t.Fatalf("%v isn't formed", next)
	}
	if size(next.Vel.X) != size(e.Vel.X) || size(next.Vel.Y) != size(e.Vel.Y) {
		t.Fatalf("%v has the Vel %v behind a step", e, next.Vel)
	}
	for _, x := range [][3]api.Fix{{e.At.X, next.At.X, size(e.Vel.X)}, {e.At.Y, next.At.Y, size(e.Vel.Y)}} {
		if far := way(x[0], x[1]); far != 0 && far != x[2] {
			t.Fatalf("%v leads to %v", e, next.At)
		}
	}
}

// Rows of steps from free places, each behind the one before.
func TestWhoStandsFreeStaysSo(t *testing.T) {
	r := rule(29)
	for _, c := range charts() {
		m := c.read(t)
		for range 8 {
			player, ball := r.player(r.freePlace(c, m)), r.ball(r.freePlace(c, m))
			mx, my := r.share(), r.share()
			for range 60 {
				if r.below(4) == 0 {
					mx, my = r.share(), r.share()
				}
				walked, rolled := Walk(m, player, mx, my), Roll(m, ball)
				checkWalkFollows(t, c, player, walked)
				checkRollFollows(t, c, ball, rolled)
				checkWalk(t, m, player, mx, my, c.walked(player, mx, my))
				checkRoll(t, m, ball, c.rolled(ball))
				if !Stands(m, walked.At) || !Stands(m, rolled.At) {
					t.Fatalf("%v or %v doesn't stand, on %q", walked, rolled, c)
				}
				player, ball = walked, rolled
			}
		}
	}
}

// A player that goes about a room comes to each floor of it, and into no wall.
func TestAboutTheRoom(t *testing.T) {
	m := room.read(t)
	e := playerAt(at(98304, 98304))
	for _, x := range []struct {
		mx, my int8
		corner api.Vec
	}{
		// 8 steps of a quarter lead past the wall in the midst, the 9th is blocked.
		{127, 0, at(229376, 98304)}, {0, 127, at(229376, 229376)}, {-127, 0, at(98304, 229376)}, {0, -127, at(98304, 98304)},
	} {
		for range 9 {
			e = Walk(m, e, x.mx, x.my)
		}
		if e.At != x.corner {
			t.Fatalf("the player is at %v, not at %v", e.At, x.corner)
		}
	}
}

// A step hangs on what it is given alone, not on the steps ahead of it.
func TestStepsDoNotHangOnOthers(t *testing.T) {
	r := rule(41)
	c := chart("o..#/.#../..../")
	m, other := c.read(t), chart("#####/#o..#/#####/").read(t)
	for range 300 {
		player, ball := r.player(r.freePlace(c, m)), r.ball(r.freePlace(c, m))
		mx, my := r.share(), r.share()
		walked, rolled := Walk(m, player, mx, my), Roll(m, ball)
		Walk(other, r.player(other.Spawns[0]), r.share(), r.share())
		Roll(other, r.ball(other.Spawns[0]))
		checkWalk(t, m, player, mx, my, walked)
		checkRoll(t, m, ball, rolled)
	}
}
