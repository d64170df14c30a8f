package tiles

import (
	"slices"
	"strconv"
	"strings"
	"testing"

	"ricochet/api"
	"ricochet/box"
)

// unformed are maps that no text has, each with a name.
func unformed() map[string]Map {
	floor := func(w, h int) Map {
		return Map{w, h, make([]bool, max(0, min(w*h, 2000))), []api.Vec{at(half, half)}}
	}
	spawns := func(l ...api.Vec) Map {
		return Map{3, 2, walls("..#..#"), l}
	}
	l := map[string]Map{
		"none":                {},
		"sides alone":         {W: 1, H: 1},
		"walls alone":         {Walls: walls(".")},
		"spawns alone":        {Spawns: []api.Vec{at(half, half)}},
		"no walls":            {W: 1, H: 1, Spawns: []api.Vec{at(half, half)}},
		"no sides":            {Walls: walls("."), Spawns: []api.Vec{at(half, half)}},
		"a tile too few":      {2, 2, walls("..."), []api.Vec{at(half, half)}},
		"a tile too many":     {2, 2, walls("....."), []api.Vec{at(half, half)}},
		"both below 0":        {-2, -2, walls("...."), []api.Vec{at(half, half)}},
		"both -1":             {-1, -1, walls("."), []api.Vec{at(half, half)}},
		"W too great":         floor(33, 1),
		"H too great":         floor(1, 33),
		"both too great":      floor(33, 33),
		"W very great":        floor(1024, 1),
		"H very great":        floor(1, 1024),
		"W 0":                 floor(0, 1),
		"H 0":                 floor(1, 0),
		"no spawn":            spawns(),
		"spawns turned":       spawns(at(98304, half), at(half, half)),
		"lines turned":        spawns(at(half, 98304), at(98304, half)),
		"a spawn twice":       spawns(at(half, half), at(half, half)),
		"twice, at the end":   spawns(at(half, half), at(98304, half), at(98304, half)),
		"twice, apart":        spawns(at(half, half), at(98304, half), at(half, half)),
		"on a wall":           spawns(at(163840, half)),
		"on a wall, the last": spawns(at(half, half), at(163840, 98304)),
		"on a corner":         spawns(at(0, 0)),
		"on another corner":   spawns(at(one, one)),
		"on an edge":          spawns(at(half, 0)),
		"near, in x":          spawns(at(half+1, half)),
		"near, below, in x":   spawns(at(half-1, half)),
		"near, in y":          spawns(at(half, half+1)),
		"near, below, in y":   spawns(at(half, half-1)),
		"near, the second":    spawns(at(half, half), at(98304, half-1)),
		"left of all":         spawns(at(-half, half)),
		"above all":           spawns(at(half, -half)),
		"right of all":        spawns(at(3*one+half, half)),
		"below all":           spawns(at(half, 2*one+half)),
		"outside, the last":   spawns(at(half, half), at(half, 2*one+half)),
		"outside, and in":     spawns(at(-half, half), at(half, half)),
		"far off":             spawns(at(farAbove, farBelow)),
		"far off in x":        spawns(at(farAbove, half)),
		"far off in y":        spawns(at(half, farBelow)),
		"far off, the last":   spawns(at(half, half), at(farAbove, farAbove)),
		"round 32 bits":       spawns(at(1<<32+half, half)),
		"round 48 bits":       spawns(at(half, 1<<48+half)),
	}
	for _, n := range []int{least, least + 1, -1 << 32, -33, 1 << 32, 1<<32 + 1, 1 << 62, greatest - 1, greatest} {
		l["W "+strconv.Itoa(n)] = Map{n, 1, walls("."), []api.Vec{at(half, half)}}
		l["H "+strconv.Itoa(n)] = Map{1, n, walls("."), []api.Vec{at(half, half)}}
		l["both "+strconv.Itoa(n)] = Map{n, n, walls("."), []api.Vec{at(half, half)}}
	}
	// Sides whose product goes round to the number of tiles.
	l["round to 4"] = Map{4, 1<<62 + 1, walls("...."), []api.Vec{at(half, half)}}
	l["round to 4, turned"] = Map{1<<62 + 1, 4, walls("...."), []api.Vec{at(half, half)}}
	l["round to 0"] = Map{1 << 32, 1 << 32, nil, []api.Vec{at(half, half)}}
	return l
}

func TestFormed(t *testing.T) {
	for s, m := range written() {
		if !Formed(m) {
			t.Errorf("the map of %q isn't formed", s)
		}
	}
	for _, s := range texts() {
		if !Formed(mapOf(s)) {
			t.Errorf("the map of %q isn't formed", s)
		}
	}
}

func TestNotFormed(t *testing.T) {
	for name, m := range unformed() {
		if Formed(m) {
			t.Errorf("%s: %v is formed", name, m)
		}
	}
}

func TestFormedOfAllSides(t *testing.T) {
	for h := -1; h <= side+2; h++ {
		for w := -1; w <= side+2; w++ {
			for _, n := range []int{w*h - 1, w * h, w*h + 1, w, h} {
				m := Map{w, h, make([]bool, max(n, 0)), []api.Vec{at(half, half)}}
				want := 1 <= w && w <= side && 1 <= h && h <= side && n == w*h
				if Formed(m) != want {
					t.Fatalf("%d times %d with %d tiles: %v", w, h, n, !want)
				}
			}
		}
	}
}

// key is all of a map, as a text that no other one has.
func key(m Map) string {
	told := strconv.Itoa(m.W) + " " + strconv.Itoa(m.H) + " "
	for _, wall := range m.Walls {
		told += strconv.FormatBool(wall)[:1]
	}
	for _, spawn := range m.Spawns {
		told += " " + strconv.FormatInt(int64(spawn.X), 10) + "," + strconv.FormatInt(int64(spawn.Y), 10)
	}
	return told
}

// smallTexts are all texts with sides of at most 2, by their maps' keys.
func smallTexts() map[string]string {
	l := map[string]string{}
	for _, lines := range []string{"?/", "??/", "?/?/", "??/??/"} {
		told := []string{lines}
		for strings.Contains(told[0], "?") {
			var more []string
			for _, one := range told {
				for _, sign := range []string{"#", ".", "o"} {
					more = append(more, strings.Replace(one, "?", sign, 1))
				}
			}
			told = more
		}
		for _, one := range told {
			if strings.Contains(one, "o") {
				l[key(mapOf(text(one)))] = text(one)
			}
		}
	}
	return l
}

// shortWalls are all lists of up to five tiles.
func shortWalls() [][]bool {
	var all [][]bool
	for count := range 6 {
		for n := range 1 << count {
			var l []bool
			for i := range count {
				l = append(l, n>>i&1 == 1)
			}
			all = append(all, l)
		}
	}
	return all
}

// Small maps of every kind are formed just if there is a text that is theirs, and
// it is that text that is answered.
func TestFormedOfAllSmallMaps(t *testing.T) {
	all := smallTexts()
	places := []api.Vec{at(half, half), at(one+half, half), at(half, one+half), at(one+half, one+half), at(2*one+half, half), at(half, -half), at(one, half)}
	var spawns [][]api.Vec
	for n := range 8 * 8 * 8 * 8 {
		var l []api.Vec
		for ; n > 0; n /= 8 {
			if n%8 > 0 {
				l = append(l, places[n%8-1])
			}
		}
		spawns = append(spawns, l)
	}
	found := map[string]bool{}
	for _, sides := range [][2]int{{1, 1}, {2, 1}, {1, 2}, {2, 2}, {0, 1}, {2, -1}} {
		for _, tiles := range shortWalls() {
			for _, l := range spawns {
				m := Map{sides[0], sides[1], tiles, l}
				want := all[key(m)]
				checkText(t, m, want)
				if want != "" {
					found[want] = true
				}
			}
		}
	}
	if len(found) != len(all) {
		t.Errorf("%d of %d texts' maps were asked", len(found), len(all))
	}
}

// checkText asks of the text of m, "" if there is none, and whether m is formed.
func checkText(t *testing.T, m Map, want string) {
	t.Helper()
	wantError := api.Errno(0)
	if want == "" {
		wantError = 1
	}
	if got, e := Text(m); got != want || e != wantError {
		t.Fatalf("%v has the text %q, %d, not %q", m, got, e, want)
	}
	if Formed(m) != (want != "") {
		t.Fatalf("%v with the text %q: %v", m, want, Formed(m))
	}
}

func TestText(t *testing.T) {
	for s, m := range written() {
		checkText(t, m, s)
	}
	for _, s := range texts() {
		checkText(t, mapOf(s), s)
	}
	for _, m := range unformed() {
		checkText(t, m, "")
	}
}

func TestWall(t *testing.T) {
	outside := []int{least, least + 1, -1 << 32, -33, -3, -2, -1, 32, 33, 34, 1 << 32, 1<<32 + 1, 1 << 62, greatest - 1, greatest}
	for _, s := range texts() {
		m := mapOf(s)
		for y, line := range strings.Split(strings.TrimSuffix(s, "\n"), "\n") {
			for x, sign := range []rune(line) {
				if got := Wall(m, x, y); got != (sign == 0x2588) {
					t.Fatalf("%q at %d, %d: %v", s, x, y, got)
				}
			}
		}
		for _, far := range append([]int{m.W, m.W + 1, -m.W, m.H, m.H + 1, -m.H}, outside...) {
			for _, near := range append([]int{0, m.W - 1, m.H - 1}, outside...) {
				if (far < 0 || far >= m.W) && !Wall(m, far, near) {
					t.Fatalf("%q has no wall at %d, %d", s, far, near)
				}
				if (far < 0 || far >= m.H) && !Wall(m, near, far) {
					t.Fatalf("%q has no wall at %d, %d", s, near, far)
				}
			}
		}
	}
}

func TestWallAtTheEdges(t *testing.T) {
	m := mapOf(text("o../.../"))
	for y := -1; y <= 2; y++ {
		for x := -1; x <= 3; x++ {
			want := x == -1 || x == 3 || y == -1 || y == 2
			if got := Wall(m, x, y); got != want {
				t.Errorf("at %d, %d: %v", x, y, got)
			}
		}
	}
}

// Of a map that isn't formed all is wall, its floors too, and nothing is free.
func TestWallAndFreeOfUnformed(t *testing.T) {
	numbers := []int{least, -1, 0, 1, 2, 31, 32, 33, 1 << 32, greatest}
	boxes := []box.Box{{}, corners(0, 0, one, one), corners(1, 1, 2, 2), corners(0, 0, 0, one), corners(one, one, 2*one, 2*one), corners(-1, -1, 1, 1)}
	for name, m := range unformed() {
		for _, x := range numbers {
			for _, y := range numbers {
				if !Wall(m, x, y) {
					t.Errorf("%s: there is no wall at %d, %d", name, x, y)
				}
			}
		}
		for _, b := range boxes {
			if Free(m, b) {
				t.Errorf("%s: %v is free", name, b)
			}
		}
	}
}

// Lists that are handed in stay as they are, and so does the room behind them.
func TestMapsAreLeftAsTheyAre(t *testing.T) {
	longer := mapOf(text("o#/.o/"))
	longer.Walls = append(longer.Walls, true, false)
	longer.Spawns = append(longer.Spawns, at(3, 4))
	kept := clone(longer)
	turned := clone(longer)
	slices.Reverse(turned.Spawns)
	keptTurned := clone(turned)
	for _, m := range []Map{longer, turned} {
		for _, part := range []Map{m, {2, 2, m.Walls[:4], m.Spawns[:2]}, {2, 1, m.Walls[:2], m.Spawns[:1]}} {
			Formed(part)
			Text(part)
			Wall(part, 0, 1)
			Free(part, corners(0, 0, one, one))
		}
	}
	if !same(longer, kept) || !same(turned, keptTurned) {
		t.Errorf("%v is now %v; %v is now %v", kept, longer, keptTurned, turned)
	}
}
