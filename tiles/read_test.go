package tiles

import (
	"strings"
	"testing"

	"ricochet/api"
)

// written are texts, and the maps that they are.
func written() map[string]Map {
	return map[string]Map{
		"██\n·◎\n": {2, 2, walls("##.."), []api.Vec{{X: 98304, Y: 98304}}},
		"◎\n":      {1, 1, walls("."), []api.Vec{{X: 32768, Y: 32768}}},
		"◎·\n":     {2, 1, walls(".."), []api.Vec{{X: 32768, Y: 32768}}},
		"█\n◎\n":   {1, 2, walls("#."), []api.Vec{{X: 32768, Y: 98304}}},
		"◎██\n":    {3, 1, walls(".##"), []api.Vec{{X: 32768, Y: 32768}}},
		"◎◎\n◎◎\n": {2, 2, walls("...."), []api.Vec{{X: 32768, Y: 32768}, {X: 98304, Y: 32768}, {X: 32768, Y: 98304}, {X: 98304, Y: 98304}}},
		"█████\n█·◎·█\n█████\n": {5, 3, walls("######...######"), []api.Vec{{X: 163840, Y: 98304}}},
		"··◎█\n█◎··\n·█·◎\n": {4, 3, walls("...##....#.."), []api.Vec{
			{X: 163840, Y: 32768}, {X: 98304, Y: 98304}, {X: 229376, Y: 163840},
		}},
		"·█\n█·\n·◎\n█·\n": {2, 4, walls(".##...#."), []api.Vec{{X: 98304, Y: 163840}}},
	}
}

func TestRead(t *testing.T) {
	for s, want := range written() {
		checkRead(t, s, want)
	}
}

// The place of a lone spawn, at each tile of the greatest map.
func TestReadASpawnAnywhere(t *testing.T) {
	for y := range side {
		for x := range side {
			signs := strings.Split(strings.Repeat(strings.Repeat("█", side)+"\n", side), "")
			signs[y*(side+1)+x] = "◎"
			want := Map{side, side, walls(strings.Repeat("#", side*side)), []api.Vec{at(api.Fix(x)*one+half, api.Fix(y)*one+half)}}
			want.Walls[y*side+x] = false
			checkRead(t, strings.Join(signs, ""), want)
		}
	}
}

// Each number of lines with each number of signs, and of both one more.
func TestReadOfAllSides(t *testing.T) {
	for h := 1; h <= side+1; h++ {
		for w := 1; w <= side+1; w++ {
			s := strings.Repeat("◎"+strings.Repeat("·", w-1)+"\n", h)
			switch {
			case w > side:
				checkFault(t, s, 3+2*(side-1))
			case h > side:
				checkFault(t, s, side*(3+2*(w-1)+1))
			default:
				checkRead(t, s, mapOf(s))
			}
		}
	}
}

// Whatever a line too many, or a sign too many, begins with.
func TestReadBeyondMaxSide(t *testing.T) {
	lines, line := strings.Repeat("█\n", side-1)+"◎\n", strings.Repeat("█", side-1)+"◎"
	for _, more := range []string{"◎", "·", "█", "\n", "◎\n", "x", "\xff", "\xe2", "█\n\n", " ", "\x00"} {
		checkFault(t, lines+more, len(lines))
		if more != "\n" {
			checkFault(t, line+more, len(line))
			checkFault(t, line+more+"\n", len(line))
			checkFault(t, line+"\n"+line+more+"\n", 2*len(line)+1)
		}
	}
	checkRead(t, lines, mapOf(lines))
	checkRead(t, line+"\n", mapOf(line+"\n"))
	checkFault(t, line+strings.Repeat("·", 1000)+"\n", len(line))
}

func TestReadWhatEndsTooEarly(t *testing.T) {
	for _, s := range []string{
		"",
		// With no spawn, wherever it ends.
		"·\n", "█\n", "·", "█", "·█\n█·\n", "··\n·", "··\n··", strings.Repeat("█\n", side), strings.Repeat("█\n", side-1),
		strings.Repeat("█", side), strings.Repeat("·", side) + "\n", strings.Repeat(strings.Repeat("·", side)+"\n", side),
		strings.Repeat(strings.Repeat("·", side)+"\n", side-1) + strings.Repeat("·", side),
		// Within a line, or ahead of its end.
		"◎", "◎·", "◎\n◎", "◎\n·", "◎·\n·", "◎·\n··", "·◎█\n█", strings.Repeat("◎", side),
		strings.Repeat("◎\n", side-1) + "◎",
	} {
		checkFault(t, s, len(s))
	}
}

func TestReadFaults(t *testing.T) {
	for s, place := range map[string]int{
		// A line end behind no sign, or too few.
		"\n": 0, "\n◎\n": 0, "\n\n": 0, "◎\n\n": 4, "◎\n\n◎\n": 4, "█\n◎\n\n": 8, "◎·\n◎\n": 9, "◎·\n·\n": 8, "◎··\n··\n": 12,
		"◎·\n·◎\n█\n": 15, "◎·\n\n": 6, "·\n\n": 3,
		// A sign more than the first line's.
		"◎\n··\n": 6, "◎\n·◎": 6, "◎·\n██·\n": 12, "◎·\n◎·◎\n": 11, "█\n◎\n·█\n": 10, "·\n··\n": 5, "◎\n·x\n": 6, "◎\n·\xff\n": 6,
		// A fault counts, though there is no spawn, and the first of two.
		"x": 0, "·x": 2, "·\nx": 3, "x\n\n": 0, "◎x\n\n": 3, "◎\n\nx": 4, "◎\n··x": 6,
	} {
		checkFault(t, s, place)
	}
}

// Signs that are none of the three, at the beginning, in a line's midst, where it
// could end, behind it, and as all that there is.
func TestReadOfOtherSigns(t *testing.T) {
	for _, sign := range []string{
		"x", "#", ".", "o", "/", " ", "\t", "\x00", "\r", "\r\n", "\v", "\x7f", "\u0085", "\u2028", "\u2029",
		"●", "○", "▇", "▉", "■", "•", "‧", "◍", "⊙", "¶", "¸", "Â", "â", "\ufeff", "\U00012588",
		// The signs' bytes with another one at the end, or in the midst.
		"\u2587", "\u2589", "\u25cd", "\u25cf", "\u2548", "\u25c8", "\xc2\xb6", "\xc2\xb8", "\xe2\x96\x8e", "\xe2\x97\x88", "\xe2\x95\x88", "\xe3\x96\x88", "\xc3\xb7",
		// Bytes that are no rune.
		"\x80", "\x88", "\x8e", "\xb7", "\xc2", "\xe2", "\xff", "\xfe", "\xc0", "\xc0\x8a", "\xe0\x80\x8a", "\xe0\x82\xb7", "\xf0\x82\x96\x88",
		"\xe2\x96", "\xe2\x97", "\x96\x88", "\x97\x8e", "\xed\xa0\x80", "\xf4\x90\x80\x80", "\xe2\xe2\x96\x88", "\xe2\x96\xe2\x96\x88", "\xc2\xc2\xb7",
		"\ufffd", "\xef\xbf", "\xef\xbf\xbe",
	} {
		for _, ahead := range []string{"", "◎", "·", "█", "·◎", "◎\n", "·\n", "◎█·\n", "◎··\n·", "◎█\n·◎\n", "███\n◎··\n█·"} {
			for _, behind := range []string{"", "\n", "◎", "◎\n", "·█\n"} {
				checkFault(t, ahead+sign+behind, len(ahead))
			}
		}
	}
}

// Texts that end at each byte: a sign that is cut off is none of the three.
func TestReadOfCutTexts(t *testing.T) {
	for _, s := range texts() {
		for n := range min(len(s), 400) {
			checkAgain(t, s[:n])
		}
	}
	checkFault(t, "◎\xe2\x96", 3)
	checkFault(t, "◎\xe2", 3)
	checkFault(t, "◎\n\xc2", 4)
	checkFault(t, "\xe2\x97", 0)
	checkFault(t, "·\xc2", 2)
}

// All texts of a few parts.
func TestReadOfAllShortTexts(t *testing.T) {
	parts := []string{"█", "·", "◎", "\n", "x", "\xe2"}
	var lay func(s string, more int)
	lay = func(s string, more int) {
		checkAgain(t, s)
		if more == 0 {
			return
		}
		for _, part := range parts {
			lay(s+part, more-1)
		}
	}
	lay("", 6)
}

// Texts in which something was changed, left out, or laid in.
func TestReadOfSpoiledTexts(t *testing.T) {
	r := rule(1)
	parts := []string{"█", "·", "◎", "\n", "\r\n", "\xe2", "\xff", "\ufffd", "", "", "█\n", "\n\n"}
	for _, s := range texts() {
		for range 60 {
			from := r.below(len(s) + 1)
			to := min(from+r.below(4), len(s))
			checkAgain(t, s[:from]+parts[r.below(len(parts))]+s[to:])
		}
	}
}

func TestReadOfMany(t *testing.T) {
	for _, s := range texts() {
		checkRead(t, s, mapOf(s))
	}
}

// What is answered is new memory: nothing that is done to it comes back.
func TestReadAnswersNewMemory(t *testing.T) {
	s := text("o#/.o/")
	first, _, _ := Read(s)
	second, _, _ := Read(s)
	first.Walls[0], first.Spawns[0] = true, at(7, 7)
	_ = append(first.Walls, true)
	_ = append(first.Spawns, at(8, 8))
	if !same(second, mapOf(s)) {
		t.Errorf("another map has become %v", second)
	}
	checkRead(t, s, mapOf(s))
}
