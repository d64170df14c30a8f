package move

import (
	"math"
	"testing"

	"ricochet/api"
)

// spoiled are entities like e, each with numbers in one field that no formed one
// may have.
func spoiled(e api.Entity, ids, kinds, healths, waits []int) []api.Entity {
	var l []api.Entity
	ints := func(numbers []int, field func(*api.Entity) *int) {
		for _, n := range append([]int{math.MinInt, math.MaxInt}, numbers...) {
			one := e
			*field(&one) = n
			l = append(l, one)
		}
	}
	ints(ids, func(e *api.Entity) *int { return &e.ID })
	ints(kinds, func(e *api.Entity) *int { return &e.Kind })
	ints(healths, func(e *api.Entity) *int { return &e.Health })
	ints(waits, func(e *api.Entity) *int { return &e.Wait })
	fixes := func(numbers []api.Fix, field func(*api.Entity) *api.Fix) {
		for _, n := range append([]api.Fix{farBelow, farAbove}, numbers...) {
			one := e
			*field(&one) = n
			l = append(l, one)
		}
	}
	places, ways := []api.Fix{-limit - 1, limit + 1, 1<<32 + 98304}, []api.Fix{-65537, 65537, 1 << 32}
	fixes(places, func(e *api.Entity) *api.Fix { return &e.At.X })
	fixes(places, func(e *api.Entity) *api.Fix { return &e.At.Y })
	fixes(ways, func(e *api.Entity) *api.Fix { return &e.Vel.X })
	fixes(ways, func(e *api.Entity) *api.Fix { return &e.Vel.Y })
	return l
}

// still are entities that neither walk nor roll, for none of them is formed.
func still() []api.Entity {
	midst := at(98304, 98304)
	player, ball := playerAt(midst), ballAt(midst, at(300, -200))
	player.Vel = at(-5, 7)
	dead := player
	dead.Health, dead.Wait = 0, 20
	l := []api.Entity{{}, {ID: 1, Kind: 1}, {ID: 9, Kind: 2}, {At: midst, Vel: at(1, 1)}}
	l = append(l, spoiled(player, []int{-1, 0, 9, 10, 16, 17}, []int{-1, 0, 2, 3}, []int{-1, 0, 101}, []int{-1, 1, 20, 21})...)
	l = append(l, spoiled(ball, []int{-1, 0, 1, 8, 17, 18}, []int{-1, 0, 1, 3}, []int{-1, 0, 1, 99, 101}, []int{-1, 1, 20, 21})...)
	return append(l, spoiled(dead, []int{-1, 0, 9}, []int{0, 2, 3}, []int{-1, 1, 100, 101}, []int{-1, 0, 21})...)
}

func TestEntitiesThatAreNotFormed(t *testing.T) {
	for _, m := range append(unformed(), chart("o../.../.../").read(t)) {
		for _, e := range still() {
			for _, mx := range []int8{-128, -127, 0, 127} {
				checkWalk(t, m, e, mx, 127, e)
				checkWalk(t, m, e, 127, mx, e)
			}
			checkRoll(t, m, e, e)
		}
	}
}

// A player doesn't roll, a ball doesn't walk, though both are formed.
func TestTheOtherKind(t *testing.T) {
	m := chart("o../.../.../").read(t)
	r := rule(31)
	for range 200 {
		place := at(98304+r.within(20000), 98304+r.within(20000))
		player, ball := r.player(place), r.ball(place)
		checkRoll(t, m, player, player)
		checkWalk(t, m, ball, r.share(), r.share(), ball)
	}
}

func TestTheDeadDoNotWalk(t *testing.T) {
	m := chart("o../.../.../").read(t)
	for id := 1; id <= 8; id++ {
		for wait := 1; wait <= 20; wait++ {
			e := api.Entity{ID: id, Kind: 1, At: at(98304, 98304), Vel: at(4, -4), Wait: wait}
			checkWalk(t, m, e, 127, -127, e)
			checkWalk(t, m, e, 0, 0, e)
			checkRoll(t, m, e, e)
		}
	}
}

// All that live walk alike, whatever their ID, health and Vel are.
func TestAllTheLivingWalk(t *testing.T) {
	m := chart("o../.../.../").read(t)
	for id := 1; id <= 8; id++ {
		for health := 1; health <= 100; health++ {
			for _, vel := range []api.Vec{at(0, 0), at(65536, -65536), at(-65536, 65536), at(16384, 1)} {
				e := api.Entity{ID: id, Kind: 1, At: at(98304, 98304), Vel: vel, Health: health}
				want := api.Entity{ID: id, Kind: 1, At: at(114688, 98174), Vel: at(16384, -130), Health: health}
				checkWalk(t, m, e, 127, -1, want)
			}
		}
	}
}

func TestAllBallsRoll(t *testing.T) {
	m := chart("o../.../.../").read(t)
	for id := 9; id <= 16; id++ {
		e := ballAt(at(98304, 98304), at(65536, -300))
		want := ballAt(at(163840, 98004), at(65536, -300))
		e.ID, want.ID = id, id
		checkRoll(t, m, e, want)
	}
}

// Who doesn't stand free at the beginning moves all the same, if it stands free
// then; in each direction by itself.
func TestWalkFromWhereNobodyStands(t *testing.T) {
	checkWalks(t, "o../.../.../", []walk{
		// The box reaches beyond the map.
		{at(8192, 98304), 127, 0, at(24576, 98304), at(16384, 0)},
		{at(8192, 98304), 127, 127, at(24576, 114688), at(16384, 16384)},
		{at(8191, 98304), 127, 127, at(8191, 98304), at(16384, 16384)},
		{at(8192, 98304), 126, 127, at(8192, 98304), at(16254, 16384)},
		{at(188416, 98304), -127, 1, at(172032, 98433), at(-16384, 129)},
		{at(188417, 98304), -127, 1, at(188417, 98304), at(-16384, 129)},
		{at(98304, 8192), 127, 127, at(98304, 24576), at(16384, 16384)},
		{at(98304, 8191), 127, 127, at(98304, 8191), at(16384, 16384)},
		{at(98304, 188416), 0, -127, at(98304, 172032), at(0, -16384)},
		{at(98304, 188417), -127, -127, at(98304, 188417), at(-16384, -16384)},
		{at(8192, 8192), 127, 127, at(8192, 8192), at(16384, 16384)},
		{at(24575, 98304), 0, 127, at(24575, 98304), at(0, 16384)},
		// It is outside, as far as it may be.
		{at(-32768, 98304), 127, 127, at(-32768, 98304), at(16384, 16384)},
		{at(limit, limit), 127, 127, at(limit, limit), at(16384, 16384)},
		{at(-limit, -limit), -127, -1, at(-limit, -limit), at(-16384, -130)},
		{at(limit, -limit), 0, 0, at(limit, -limit), at(0, 0)},
	})
	checkWalks(t, room, []walk{
		// In a wall, and out of it.
		{at(163840, 163840), 127, -127, at(163840, 163840), at(16384, -16384)},
		{at(163840, 163840), 0, 0, at(163840, 163840), at(0, 0)},
		{at(122880, 163840), -127, 127, at(106496, 180224), at(-16384, 16384)},
		{at(122881, 163840), -127, 127, at(122881, 163840), at(-16384, 16384)},
		{at(163840, 122880), 127, -127, at(163840, 106496), at(16384, -16384)},
		{at(163840, 122881), 127, -127, at(163840, 122881), at(16384, -16384)},
		{at(32768, 32768), 127, 127, at(32768, 32768), at(16384, 16384)},
	})
}

func TestRollFromWhereNobodyStands(t *testing.T) {
	checkRolls(t, "o../.../.../", []roll{
		{at(-40960, 98304), at(65536, 5), at(24576, 98309), at(65536, 5)},
		{at(-40961, 98304), at(65536, 5), at(-40961, 98304), at(-65536, -5)},
		{at(-40960, 98304), at(65535, 0), at(-40960, 98304), at(-65535, 0)},
		{at(237568, 98304), at(-65536, 5), at(172032, 98309), at(-65536, 5)},
		{at(98304, -40960), at(5, 65536), at(98304, 24576), at(-5, 65536)},
		{at(98304, -40961), at(5, 65536), at(98304, -40961), at(-5, -65536)},
		{at(98304, 237568), at(0, -65536), at(98304, 172032), at(0, -65536)},
		{at(limit, limit), at(65536, -65536), at(limit, limit), at(-65536, 65536)},
		{at(-limit, -limit), at(-65536, 1), at(-limit, -limit), at(65536, -1)},
		{at(-limit, limit), at(0, 0), at(-limit, limit), at(0, 0)},
	})
	checkRolls(t, room, []roll{
		{at(163840, 163840), at(0, 0), at(163840, 163840), at(0, 0)},
		{at(163840, 163840), at(65536, 0), at(229376, 163840), at(65536, 0)},
		{at(163840, 163840), at(57344, 3), at(221184, 163843), at(57344, 3)},
		{at(163840, 163840), at(57343, 3), at(163840, 163840), at(-57343, -3)},
		{at(163840, 163840), at(3, -57344), at(163840, 106496), at(-3, -57344)},
		{at(163840, 163840), at(3, -57343), at(163840, 163840), at(-3, 57343)},
	})
}
