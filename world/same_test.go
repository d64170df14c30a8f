package world

import (
	"slices"
	"testing"

	"ricochet/api"
	"ricochet/tiles"
)

// model is a world with something in each of its fields.
func model(t *testing.T) World {
	l := []api.Entity{goes(playerAt(2, at(one, half), 60), at(-3, 4)), deadAt(5, at(half, half), 7), ballAt(9, at(half, half), at(5, -6))}
	return chart("o.o/.#./..o/").world(t, 77, 3, l...)
}

func checkSame(t *testing.T, a, b World, want bool) {
	t.Helper()
	if Same(a, b) != want || Same(b, a) != want {
		t.Fatalf("that both are the same is %v:\n%s\nand\n%s", !want, tell(a), tell(b))
	}
}

func TestSame(t *testing.T) {
	checkSame(t, World{}, World{}, true)
	checkSame(t, model(t), model(t), true)
	w := model(t)
	checkSame(t, w, w, true)
	checkSame(t, w, roomy(w), true)
	checkSame(t, w, World{}, false)
}

// Worlds that differ in one thing alone.
func TestWhatIsNotTheSame(t *testing.T) {
	changes := []func(w *World){
		func(w *World) { w.State++ },
		func(w *World) { w.State ^= 1 << 63 },
		func(w *World) { w.Tick++ },
		func(w *World) { w.Tick += 1 << 32 },
		func(w *World) { w.Map.W++ },
		func(w *World) { w.Map.H-- },
		func(w *World) { w.Map.Walls[0] = true },
		func(w *World) { w.Map.Walls[8] = true },
		func(w *World) { w.Map.Walls[4] = false },
		func(w *World) { w.Map.Walls = w.Map.Walls[:8] },
		func(w *World) { w.Map.Walls = append(w.Map.Walls, false) },
		func(w *World) { w.Map.Walls = nil },
		func(w *World) { w.Map.Spawns[0].X++ },
		func(w *World) { w.Map.Spawns[2].Y-- },
		func(w *World) { w.Map.Spawns = w.Map.Spawns[:2] },
		func(w *World) { w.Map.Spawns = append(w.Map.Spawns, at(0, 0)) },
		func(w *World) { slices.Reverse(w.Map.Spawns) },
		func(w *World) { w.Map.Spawns = nil },
		func(w *World) { w.L = w.L[:2] },
		func(w *World) { w.L = w.L[1:] },
		func(w *World) { w.L = append(w.L, api.Entity{}) },
		func(w *World) { w.L[0], w.L[1] = w.L[1], w.L[0] },
		func(w *World) { w.L = nil },
	}
	for i := range 3 {
		changes = append(changes,
			func(w *World) { w.L[i].ID++ },
			func(w *World) { w.L[i].Kind++ },
			func(w *World) { w.L[i].At.X++ },
			func(w *World) { w.L[i].At.Y-- },
			func(w *World) { w.L[i].Vel.X-- },
			func(w *World) { w.L[i].Vel.Y++ },
			func(w *World) { w.L[i].Health++ },
			func(w *World) { w.L[i].Wait-- },
		)
	}
	for i, change := range changes {
		w := model(t)
		change(&w)
		checkSame(t, model(t), w, false)
		for j, other := range changes {
			x := model(t)
			other(&x)
			checkSame(t, w, x, tell(w) == tell(x))
			if (i == j) != (tell(w) == tell(x)) {
				t.Fatalf("the changes %d and %d are the same", i, j)
			}
		}
	}
}

// A list that is nil means the same as one without elements.
func TestSameWithoutElements(t *testing.T) {
	bare := World{State: 1, Tick: 2}
	empty := World{Map: tiles.Map{Walls: []bool{}, Spawns: []api.Vec{}}, State: 1, Tick: 2, L: []api.Entity{}}
	checkSame(t, bare, empty, true)
	checkSame(t, bare, roomy(bare), true)
	empty.Tick = 3
	checkSame(t, bare, empty, false)
}

// What can't be read, or isn't formed, is the same as its like too.
func TestSameOfOddWorlds(t *testing.T) {
	worlds, others := oddWorlds(t), oddWorlds(t)
	for i := range worlds {
		for j := range others {
			if (i+j)%7 == 0 || i == j {
				checkSame(t, worlds[i], others[j], tell(worlds[i]) == tell(others[j]))
			}
		}
	}
}
