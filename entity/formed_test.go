package entity

import (
	"testing"

	"ricochet/api"
)

func somePlayer() api.Entity {
	return api.Entity{ID: 3, Kind: 1, At: api.Vec{X: 98304, Y: -7}, Vel: api.Vec{X: 5, Y: -16384}, Health: 50}
}

func deadPlayer() api.Entity {
	return api.Entity{ID: 8, Kind: 1, At: api.Vec{X: 1, Y: 2}, Wait: 7}
}

func someBall() api.Entity {
	return api.Entity{ID: 9, Kind: 2, At: api.Vec{X: 98304, Y: 32768}, Vel: api.Vec{X: -65536, Y: 65536}, Health: 100}
}

func TestFormed(t *testing.T) {
	for _, e := range []api.Entity{
		somePlayer(),
		deadPlayer(),
		someBall(),
		{ID: 1, Kind: 1, Health: 1},
		{ID: 1, Kind: 1, Health: 100},
		{ID: 1, Kind: 1, Wait: 1},
		{ID: 1, Kind: 1, Wait: 20},
		{ID: 8, Kind: 1, Health: 99},
		{ID: 9, Kind: 2, Health: 100},
		{ID: 16, Kind: 2, Health: 100},
	} {
		if !Formed(e) {
			t.Errorf("%+v isn't formed", e)
		}
	}
}

func TestNotFormed(t *testing.T) {
	for _, e := range []api.Entity{
		{},
		{ID: 1},
		{Kind: 1, Health: 100},
		{Kind: 2, Health: 100},
		{ID: 1, Health: 100},
		{ID: 9, Health: 100},
		{ID: 1, Kind: 1},
		{ID: 1, Kind: 1, Health: 100, Wait: 20},
		{ID: 1, Kind: 1, Health: 1, Wait: 1},
		{ID: 9, Kind: 1, Health: 100},
		{ID: 8, Kind: 2, Health: 100},
		{ID: 9, Kind: 2},
		{ID: 9, Kind: 2, Health: 99},
		{ID: 9, Kind: 2, Health: 101},
		{ID: 9, Kind: 2, Health: 100, Wait: 1},
		{ID: 9, Kind: 2, Health: 100, Wait: -1},
		{ID: 9, Kind: 2, Wait: 20},
		{ID: 17, Kind: 2, Health: 100},
	} {
		if Formed(e) {
			t.Errorf("%+v is formed", e)
		}
	}
}

// Each ID with each Kind.
func TestFormedByIDAndKind(t *testing.T) {
	ids := []int{least, -16, -9, -8, -1, 0, 1, 2, 7, 8, 9, 10, 15, 16, 17, 18, 257, 1<<32 + 1, greatest}
	kinds := []int{least, -2, -1, 0, 1, 2, 3, 4, 257, 258, 1<<32 + 1, greatest}
	for _, id := range ids {
		for _, kind := range kinds {
			want := kind == 1 && 1 <= id && id <= 8 || kind == 2 && 9 <= id && id <= 16
			if got := Formed(api.Entity{ID: id, Kind: kind, Health: 100}); got != want {
				t.Errorf("ID %d of kind %d: %v", id, kind, got)
			}
		}
	}
}

// Each number of a place, and of a speed, by itself.
func TestFormedByPlaceAndSpeed(t *testing.T) {
	bounds := [4]int64{limit, limit, 65536, 65536}
	for _, e := range []api.Entity{somePlayer(), deadPlayer(), someBall()} {
		for i, most := range bounds {
			for _, number := range []int64{least, -most - 1, -most, 1 - most, -1, 0, 1, most - 1, most, most + 1, 1<<32 + 1, greatest} {
				x := rowOf(e)
				x[i] = number
				want := -most <= number && number <= most
				if got := Formed(entityOf(e.ID, e.Kind, x)); got != want {
					t.Errorf("%+v with %d as field %d: %v", e, number, i, got)
				}
			}
		}
	}
}

func TestFormedAtAllCorners(t *testing.T) {
	for _, e := range []api.Entity{somePlayer(), deadPlayer(), someBall()} {
		for i := range 16 {
			x := rowOf(e)
			for j, most := range []int64{limit, limit, 65536, 65536} {
				x[j] = most * int64(i>>j%2*2-1)
			}
			if at := entityOf(e.ID, e.Kind, x); !formed(at) || !Formed(at) {
				t.Errorf("%+v isn't formed", at)
			}
		}
	}
}

// Each Health with each Wait: of a player one of both is 0, not both.
func TestFormedByHealthAndWait(t *testing.T) {
	healths := []int{least, -100, -1, 0, 1, 2, 50, 99, 100, 101, 1<<32 + 1, greatest}
	waits := []int{least, -20, -1, 0, 1, 2, 10, 19, 20, 21, 100, 1<<32 + 1, greatest}
	for _, health := range healths {
		for _, wait := range waits {
			lives := 1 <= health && health <= 100 && wait == 0
			waiting := health == 0 && 1 <= wait && wait <= 20
			if got := Formed(api.Entity{ID: 1, Kind: 1, Health: health, Wait: wait}); got != (lives || waiting) {
				t.Errorf("a player with Health %d and Wait %d: %v", health, wait, got)
			}
			if got := Formed(api.Entity{ID: 9, Kind: 2, Health: health, Wait: wait}); got != (health == 100 && wait == 0) {
				t.Errorf("a ball with Health %d and Wait %d: %v", health, wait, got)
			}
		}
	}
}

// Entities near the edges of all that is asked.
func TestFormedOfMany(t *testing.T) {
	r := rule(101)
	count := 0
	for range 20000 {
		e := r.entity(1 + r.below(16))
		x := rowOf(e)
		if i := r.below(9); i < 6 {
			x[i] += r.within(3)
		}
		e = entityOf(e.ID+int(r.within(10)/10), e.Kind+int(r.within(10)/10), x)
		if got := Formed(e); got != formed(e) {
			t.Fatalf("%+v: %v", e, got)
		}
		if formed(e) {
			count++
		}
	}
	if count < 5000 || count > 18000 {
		t.Errorf("%d of 20000 are formed, so that one side is hardly asked", count)
	}
}
