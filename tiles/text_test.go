package tiles

import (
	"math"
	"slices"
	"strings"
	"testing"
	"unicode/utf8"

	"ricochet/api"
	"ricochet/box"
)

const (
	one      = api.Fix(65536)
	half     = api.Fix(32768)
	side     = 32
	limit    = api.Fix(134217728)
	least    = math.MinInt
	greatest = math.MaxInt
	farBelow = api.Fix(math.MinInt64)
	farAbove = api.Fix(math.MaxInt64)
)

func at(x, y api.Fix) api.Vec { return api.Vec{X: x, Y: y} }

func corners(leastX, leastY, mostX, mostY api.Fix) box.Box {
	return box.Box{Least: at(leastX, leastY), Most: at(mostX, mostY)}
}

// walls are told by # and anything else.
func walls(told string) []bool {
	var l []bool
	for i := range told {
		l = append(l, told[i] == '#')
	}
	return l
}

// text is a map's text told by #, . and o, with / for each line end.
func text(told string) string {
	return strings.NewReplacer("#", "\xe2\x96\x88", ".", "\xc2\xb7", "o", "\xe2\x97\x8e", "/", "\x0a").Replace(told)
}

func same(a, b Map) bool {
	return a.W == b.W && a.H == b.H && slices.Equal(a.Walls, b.Walls) && slices.Equal(a.Spawns, b.Spawns)
}

func clone(m Map) Map {
	return Map{m.W, m.H, slices.Clone(m.Walls), slices.Clone(m.Spawns)}
}

// mapOf is the map of a text, which must be one, told by its lines.
func mapOf(s string) Map {
	lines := strings.Split(strings.TrimSuffix(s, "\n"), "\n")
	m := Map{W: utf8.RuneCountInString(lines[0]), H: len(lines)}
	for y, line := range lines {
		for x, sign := range []rune(line) {
			m.Walls = append(m.Walls, sign == 0x2588)
			if sign == 0x25CE {
				m.Spawns = append(m.Spawns, at(api.Fix(x)*65536+32768, api.Fix(y)*65536+32768))
			}
		}
	}
	return m
}

// signLength is how many bytes the sign or the line end has with which s begins,
// 0 if it begins with none of them.
func signLength(s string) int {
	for _, sign := range []string{"\xe2\x96\x88", "\xc2\xb7", "\xe2\x97\x8e", "\n"} {
		if strings.HasPrefix(s, sign) {
			return len(sign)
		}
	}
	return 0
}

// goesOn is whether a text, of signs and line ends alone, can be gone on with, or
// could, if it had a spawn.
func goesOn(s string) bool {
	lines := strings.Split(s, "\n")
	ended, begun := lines[:len(lines)-1], lines[len(lines)-1]
	if len(ended) > side || len(ended) == side && begun != "" {
		return false
	}
	most := side
	for i, line := range ended {
		n := utf8.RuneCountInString(line)
		if n < 1 || n > most || i > 0 && n != most {
			return false
		}
		most = n
	}
	return utf8.RuneCountInString(begun) <= most
}

// fault is where s stops being a map's text, and whether it does.
func fault(s string) (int, bool) {
	for place := 0; place < len(s); {
		n := signLength(s[place:])
		if n == 0 || !goesOn(s[:place+n]) {
			return place, true
		}
		place += n
	}
	if !strings.HasSuffix(s, "\n") || !strings.Contains(s, "◎") {
		return len(s), true
	}
	return 0, false
}

func checkRead(t *testing.T, s string, want Map) {
	t.Helper()
	if m, place, e := Read(s); !same(m, want) || place != 0 || e != 0 {
		t.Fatalf("%q is read as %v, %d, %d, not as %v", s, m, place, e, want)
	}
}

func checkFault(t *testing.T, s string, want int) {
	t.Helper()
	m, place, e := Read(s)
	if e != 2 || place != want {
		t.Fatalf("%q has the error %d at %d, not 2 at %d", s, e, place, want)
	}
	if !same(m, Map{}) {
		t.Fatalf("%q isn't read, and makes %v", s, m)
	}
}

// checkAgain reads s, and holds what is answered against the second telling.
func checkAgain(t *testing.T, s string) {
	t.Helper()
	if place, bad := fault(s); bad {
		checkFault(t, s, place)
		return
	}
	checkRead(t, s, mapOf(s))
}

// rule is a fixed line of numbers that look like chance.
type rule uint64

func (r *rule) below(n int) int {
	*r = *r*6364136223846793005 + 1442695040888963407
	return int(uint64(*r) >> 33 % uint64(n))
}

// text is that of a map with such sides, spawns in few places, or in many.
func (r *rule) text(w, h int) string {
	signs := []byte("#.o#.#.##.#.")[:3+r.below(10)]
	told := make([]byte, 0, (w+1)*h)
	for range h {
		for range w {
			told = append(told, signs[r.below(len(signs))])
		}
		told = append(told, '/')
	}
	told[r.below(h)*(w+1)+r.below(w)] = 'o'
	return text(string(told))
}

// texts are those of maps of many sides.
func texts() []string {
	r := rule(11)
	l := []string{text("##/.o/"), text("o/"), text("oo/"), text("o/o/")}
	for range 60 {
		l = append(l, r.text(1+r.below(6), 1+r.below(6)))
	}
	for _, sides := range [][2]int{{32, 1}, {1, 32}, {31, 2}, {2, 31}, {32, 32}, {31, 32}, {32, 31}, {17, 9}} {
		l = append(l, r.text(sides[0], sides[1]))
	}
	return l
}

// A reference that is wrong by itself would hide what it should show.
func TestTheTellingItself(t *testing.T) {
	if got := text("##/.o/"); got != "██\n·◎\n" {
		t.Errorf("the example is %q", got)
	}
	want := Map{2, 2, []bool{true, true, false, false}, []api.Vec{{X: 98304, Y: 98304}}}
	if got := mapOf("██\n·◎\n"); !same(got, want) {
		t.Errorf("the example's map is %v", got)
	}
	for _, s := range texts() {
		if place, bad := fault(s); bad {
			t.Errorf("%q has a fault at %d", s, place)
		}
	}
}
