package world

import (
	"fmt"
	"math"
	"slices"
	"strings"
	"testing"

	"ricochet/api"
	"ricochet/move"
	"ricochet/random"
	"ricochet/tiles"
)

// The document's numbers, written out, so that one that were read wrongly would
// be noticed.
const (
	one      = 65536
	half     = 32768 // of a tile
	apart    = 49152 // of two boxes' middles, where an edge is all that they share
	full     = 100
	longest  = 20 // ticks that a dead one waits
	step     = 0x9E3779B97F4A7C15
	farBelow = math.MinInt
	farAbove = math.MaxInt
)

func at(x, y api.Fix) api.Vec { return api.Vec{X: x, Y: y} }

// playerAt is a player that lives, at rest.
func playerAt(id int, place api.Vec, health int) api.Entity {
	return api.Entity{ID: id, Kind: 1, At: place, Health: health}
}

func deadAt(id int, place api.Vec, wait int) api.Entity {
	return api.Entity{ID: id, Kind: 1, At: place, Wait: wait}
}

func ballAt(id int, place, vel api.Vec) api.Entity {
	return api.Entity{ID: id, Kind: 2, At: place, Vel: vel, Health: 100}
}

func goes(e api.Entity, vel api.Vec) api.Entity {
	e.Vel = vel
	return e
}

// chart is a map told by #, . and o, with / for each line end.
type chart string

// read is the map that is told, which must be one.
func (c chart) read(t *testing.T) tiles.Map {
	t.Helper()
	s := strings.NewReplacer("#", "\xe2\x96\x88", ".", "\xc2\xb7", "o", "\xe2\x97\x8e", "/", "\x0a").Replace(string(c))
	m, place, e := tiles.Read(s)
	if e != 0 {
		t.Fatalf("%q isn't a map's text, from %d on", c, place)
	}
	return m
}

// world is a world that is put together by hand.
func (c chart) world(t *testing.T, state uint64, tick int, l ...api.Entity) World {
	t.Helper()
	return World{c.read(t), state, tick, l}
}

// charts are maps of many sides, with one spawn and with several.
func charts() []chart {
	return []chart{
		"o/", "oo/", "o/./", "o#/#o/", "o.o/.#./..o/", "o..#/.#../..../", "o..../.###./....o/.###./o..../",
		"#####/#o..#/#.#.#/#..o#/#####/", "o......o/......../...##.../o......o/", "o.................o/",
	}
}

// unreadable are maps that can't be read: some have spawns all the same.
func unreadable(t *testing.T) []tiles.Map {
	l := []tiles.Map{{}, {W: 1, H: 1}, {W: farBelow, H: farAbove}, {Spawns: []api.Vec{at(half, half)}}}
	spoil := func(f func(m *tiles.Map)) {
		m := chart("o.o/.#./..o/").read(t)
		f(&m)
		l = append(l, m)
	}
	spoil(func(m *tiles.Map) { m.Spawns = nil })
	spoil(func(m *tiles.Map) { m.Spawns[0] = at(one+half, one+half) })
	spoil(func(m *tiles.Map) { m.Spawns[1].X++ })
	spoil(func(m *tiles.Map) { slices.Reverse(m.Spawns) })
	spoil(func(m *tiles.Map) { m.Walls = m.Walls[1:] })
	spoil(func(m *tiles.Map) { m.Walls = append(m.Walls, false) })
	spoil(func(m *tiles.Map) { m.W, m.H = 9, 0 })
	spoil(func(m *tiles.Map) { m.W, m.H = -3, -3 })
	return l
}

// rule is a fixed line of numbers that look like chance.
type rule uint64

func (r *rule) below(n int) int {
	*r = *r*6364136223846793005 + 1442695040888963407
	return int(uint64(*r) >> 33 % uint64(n))
}

// from is a number from least to most.
func (r *rule) from(least, most int) int { return least + r.below(most-least+1) }

// ledger is a second telling of a world, that keeps who is there by the ID.
type ledger struct {
	m     tiles.Map
	state uint64
	tick  int
	who   [17]api.Entity // Kind 0 where there is nobody
}

func begin(m tiles.Map, seed uint64, balls int) *ledger {
	l := &ledger{m: m, state: seed}
	for id := 9; id < 9+balls; id++ {
		place := l.spawn()
		x := l.below(32769)
		y := l.below(32769)
		l.who[id] = ballAt(id, place, at(api.Fix(x-16384), api.Fix(y-16384)))
	}
	return l
}

func (l *ledger) below(n uint64) int {
	var x uint64
	l.state, x = random.Next(l.state)
	return int(x % n)
}

func (l *ledger) spawn() api.Vec { return l.m.Spawns[l.below(uint64(len(l.m.Spawns)))] }

func (l *ledger) join(id int) bool {
	if id < 1 || id > 8 || l.who[id].Kind != 0 {
		return false
	}
	l.who[id] = playerAt(id, l.spawn(), full)
	return true
}

func (l *ledger) leave(id int) bool {
	if id < 1 || id > 8 || l.who[id].Kind == 0 {
		return false
	}
	l.who[id] = api.Entity{}
	return true
}

func (l *ledger) hit(id, by int) {
	if id < 1 || id > 8 || l.who[id].Health == 0 || by < 1 {
		return
	}
	left := playerAt(id, l.who[id].At, l.who[id].Health-by)
	left.Vel = l.who[id].Vel
	if left.Health < 1 {
		left = deadAt(id, left.At, longest)
	}
	l.who[id] = left
}

func (l *ledger) walk(id int, mx, my int8) {
	if id >= 1 && id <= 8 {
		l.who[id] = move.Walk(l.m, l.who[id], mx, my)
	}
}

func (l *ledger) goOn() {
	for id := 9; id <= 16; id++ {
		l.who[id] = move.Roll(l.m, l.who[id])
	}
	for id := 1; id <= 8; id++ {
		for ball := 9; ball <= 16; ball++ {
			if l.who[id].Kind == 1 && l.who[ball].Kind == 2 && near(l.who[id].At, l.who[ball].At) {
				l.hit(id, 5)
			}
		}
	}
	for id := 1; id <= 8; id++ {
		e := l.who[id]
		switch {
		case e.Kind == 0 || e.Health > 0:
		case e.Wait == 1:
			l.who[id] = playerAt(id, l.spawn(), full)
		default:
			l.who[id] = deadAt(id, e.At, e.Wait-1)
		}
	}
	l.tick++
}

// near is whether boxes with these middles have more than an edge in common.
func near(a, b api.Vec) bool {
	return max(a.X-b.X, b.X-a.X) < apart && max(a.Y-b.Y, b.Y-a.Y) < apart
}

// world is the world that the ledger tells of.
func (l *ledger) world() World {
	w := World{Map: l.m, State: l.state, Tick: l.tick}
	for _, e := range l.who {
		if e.Kind != 0 {
			w.L = append(w.L, e)
		}
	}
	return w
}

// tell tells all of a world; a list that is nil is told as one without elements.
func tell(w World) string { return fmt.Sprintf("%+v", w) }

func checkWorld(t *testing.T, what string, got, want World) {
	t.Helper()
	if tell(got) != tell(want) {
		t.Fatalf("%s:\n%s\nnot\n%s", what, tell(got), tell(want))
	}
}

func checkErrno(t *testing.T, what string, got, want api.Errno) {
	t.Helper()
	if got != want {
		t.Fatalf("%s: error %d, not %d", what, got, want)
	}
}

// A reference that is wrong by itself would hide what it should show.
func TestTheTellingItself(t *testing.T) {
	l := begin(chart("o/").read(t), 0, 0)
	for i, want := range []int{0xAF, 0xF4, 0x4F} {
		if got := l.below(256); got != want {
			t.Errorf("the number %d is %#x, not %#x", i, got, want)
		}
	}
	if l.state != 0xDAA66D2C7DDF743F {
		t.Errorf("the state is %#x", l.state)
	}
	for _, x := range []struct {
		b    api.Vec
		near bool
	}{
		{at(0, 0), true}, {at(49151, 49151), true}, {at(-49151, 49151), true}, {at(49152, 0), false}, {at(0, -49152), false}, {at(0, 49152), false}, {at(-49152, 0), false},
	} {
		if near(at(0, 0), x.b) != x.near || near(at(7, 9), at(7+x.b.X, 9+x.b.Y)) != x.near {
			t.Errorf("%v is near: %v", x.b, !x.near)
		}
	}
	for _, m := range unreadable(t) {
		if tiles.Formed(m) {
			t.Errorf("%v can be read", m)
		}
	}
	if tell(World{L: []api.Entity{}}) != tell(World{}) || tell(World{Tick: 1}) == tell(World{}) {
		t.Error("how worlds are told")
	}
}
