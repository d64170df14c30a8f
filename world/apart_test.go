package world

import (
	"slices"
	"testing"

	"ricochet/api"
)

// roomy is w with spare room behind each of its lists, in which something stands.
func roomy(w World) World {
	w.Map.Walls = withRoom(w.Map.Walls, true)
	w.Map.Spawns = withRoom(w.Map.Spawns, at(one+half, half))
	w.L = withRoom(w.L, playerAt(5, at(half, half), 55))
	return w
}

func withRoom[T any](l []T, spare T) []T {
	return append(slices.Clone(l), spare, spare, spare)[:len(l)]
}

// opened is w with its spare room.
func opened(w World) World {
	w.Map.Walls = w.Map.Walls[:cap(w.Map.Walls)]
	w.Map.Spawns = w.Map.Spawns[:cap(w.Map.Spawns)]
	w.L = w.L[:cap(w.L)]
	return w
}

// spoil writes over all of a world's lists, their spare room too.
func spoil(w World) {
	w = opened(w)
	for i := range w.Map.Walls {
		w.Map.Walls[i] = !w.Map.Walls[i]
	}
	for i := range w.Map.Spawns {
		w.Map.Spawns[i] = at(-3, -3)
	}
	for i := range w.L {
		w.L[i] = ballAt(-9, at(-9, -9), at(9, 9))
	}
}

// checkApart asks of a call whether it leaves the world as it is that it is given,
// and whether what it answers has memory of its own.
func checkApart(t *testing.T, w World, call func(World) World) {
	t.Helper()
	given := roomy(w)
	before := tell(opened(given))
	got := call(given)
	if after := tell(opened(given)); after != before {
		t.Fatalf("what was handed in is changed:\n%s\nwas\n%s", after, before)
	}
	spoil(got)
	if after := tell(opened(given)); after != before {
		t.Fatalf("what was handed in hangs on the answer:\n%s\nwas\n%s", after, before)
	}
	got = call(given)
	before = tell(got)
	spoil(given)
	if after := tell(got); after != before {
		t.Fatalf("the answer hangs on what was handed in:\n%s\nwas\n%s", after, before)
	}
}

// calls are all calls that turn a world, by many numbers.
func calls() []func(World) World {
	l := []func(World) World{Tick}
	for _, id := range []int{farBelow, 0, 1, 2, 3, 8, 9, farAbove} {
		l = append(l,
			func(w World) World { x, _ := Join(w, id); return x },
			func(w World) World { x, _ := Leave(w, id); return x },
		)
		for _, by := range []int{farBelow, 0, 1, 100, farAbove} {
			l = append(l, func(w World) World { return Hit(w, id, by) })
		}
		for _, mx := range []int8{-128, 127} {
			for _, number := range []uint32{0, 1} {
				l = append(l, func(w World) World { return Go(w, api.Command{Number: number, MX: mx, MY: 1}, id) })
			}
		}
	}
	return l
}

// oddWorlds are worlds that were put together by hand.
func oddWorlds(t *testing.T) []World {
	maps := append(unreadable(t), chart("o.o/.#./..o/").read(t), chart("o/").read(t))
	midst := at(half, half)
	lists := [][]api.Entity{
		nil,
		{},
		{{}},
		{{}, {}, {}},
		{playerAt(2, midst, 100), ballAt(9, midst, at(100, 200))},
		{ballAt(9, midst, at(100, 200)), playerAt(3, midst, 5), playerAt(2, midst, 100)},
		{playerAt(2, midst, 100), playerAt(2, midst, 50), playerAt(2, midst, 1)},
		{deadAt(1, midst, 1), deadAt(3, midst, 1), deadAt(2, midst, 1), deadAt(2, midst, 2)},
		{deadAt(1, midst, 0), deadAt(2, midst, farBelow), deadAt(3, midst, farAbove), deadAt(5, midst, 21)},
		{playerAt(1, midst, farBelow), playerAt(2, midst, -1), playerAt(3, midst, 101), playerAt(5, midst, farAbove), ballAt(9, midst, at(0, 0))},
		{playerAt(1, at(-1<<63, 1<<63-1), 100), ballAt(9, at(-1<<63, 1<<63-1), at(1<<63-1, -1<<63))},
		{{ID: 1, Kind: 2, At: midst, Health: 100}, {ID: 9, Kind: 1, At: midst, Health: 100}, {ID: 10, Kind: 3, At: midst, Health: 100}},
		{{ID: farBelow, Kind: 1}, {ID: farAbove, Kind: 2}, {ID: 0, Kind: farBelow}, {ID: -1, Kind: farAbove, Wait: 1}},
	}
	var worlds []World
	for _, m := range maps {
		for i, l := range lists {
			worlds = append(worlds, World{m, uint64(i) * step, i, l}, World{m, 1<<64 - 1, farAbove - i, l}, World{m, 0, farBelow, l})
		}
	}
	return worlds
}

// Each call, on worlds of all kinds: it ends, and leaves them as they are.
func TestWorldsStayAsTheyAre(t *testing.T) {
	worlds := oddWorlds(t)
	for _, c := range []chart{"o/", "o.o/.#./..o/", "o..../.###./....o/.###./o..../"} {
		l := begin(c.read(t), 12, 8)
		for id := 1; id <= 8; id += 2 {
			l.join(id)
		}
		l.hit(3, 100)
		worlds = append(worlds, l.world())
	}
	for _, w := range worlds {
		for _, call := range calls() {
			checkApart(t, w, call)
		}
	}
}

// Nor does one answer hang on another that came of the same world.
func TestAnswersDoNotHangOnOneAnother(t *testing.T) {
	l := begin(chart("o.o/.#./..o/").read(t), 12, 3)
	l.join(2)
	l.join(5)
	w := l.world()
	for i, call := range calls() {
		first, second := call(w), call(w)
		before := tell(second)
		spoil(first)
		if tell(second) != before {
			t.Fatalf("the call %d answers twice in one memory", i)
		}
	}
}

func TestSameLeavesWorldsAsTheyAre(t *testing.T) {
	for _, w := range oddWorlds(t) {
		given, other := roomy(w), roomy(w)
		before := tell(opened(given))
		if !Same(given, other) {
			t.Fatalf("%s isn't the same as itself", before)
		}
		if tell(opened(given)) != before || tell(opened(other)) != before {
			t.Fatalf("%s was changed", before)
		}
	}
}
