package stream

import (
	"math"
	"slices"
	"strings"
	"testing"

	"ricochet/bits"
)

func TestAZeroReceiverWantsOne(t *testing.T) {
	var a Receiver
	for _, r := range []*Receiver{{}, new(Receiver), &a} {
		checkWants(t, r, 1)
		checkTake(t, r, "000", nil, 1)
		checkNone(t, r, "")
		checkTake(t, r, spell(1, []string{"a"}), []string{"a"}, 2)
	}
}

func TestTheExample(t *testing.T) {
	s, r := &Sender{}, &Receiver{}
	s.Queue("a")
	s.Queue("b")
	checkTake(t, r, put(t, s), []string{"a", "b"}, 3)
	if got := s.Confirm(r.Wants()); got != 2 || s.Waits() != 0 {
		t.Errorf("Confirm(3) = %d, %d wait", got, s.Waits())
	}
}

func TestTakeWrittenOut(t *testing.T) {
	zeros := strings.Repeat("0", 24)
	r := &Receiver{}
	steps := []struct {
		name  string
		text  string
		want  []string
		wants uint32
	}{
		{"no lines", "000", nil, 1},
		{"the second, which is behind", "100 01000000" + zeros + " 100000 01000110", nil, 1},
		{"the first", "100 10000000" + zeros + " 100000 10000110", []string{"a"}, 2},
		{"the first again", "100 10000000" + zeros + " 100000 10000110", nil, 2},
		{"the first and the second", "010 10000000" + zeros + " 100000 10000110 100000 01000110", []string{"b"}, 3},
		{"both again", "010 10000000" + zeros + " 100000 10000110 100000 01000110", nil, 3},
		{"the second and the third", "010 01000000" + zeros + " 100000 01000110 010000 00000000 11111111", []string{"\x00\xff"}, 4},
		{"the fifth, which is behind", "100 10100000" + zeros + " 100000 11000011", nil, 4},
		{"the fourth on, seven", "111 00100000" + zeros + sevenText, sevenLines, 11},
		{"the fourth on, again", "111 00100000" + zeros + sevenText, nil, 11},
		{"the tenth on, seven", "111 01010000" + zeros + sevenText, sevenLines[1:], 17},
		{"the 16th on, seven", "111 00001000" + zeros + sevenText, sevenLines[1:], 23},
		{"the 17th on, seven", "111 10001000" + zeros + sevenText, sevenLines[6:], 24},
		{"the 17th on, again", "111 10001000" + zeros + sevenText, nil, 24},
		{"no lines again", "000", nil, 24},
		{"60 bytes", "100 00011000" + zeros + " 001111" + strings.Repeat(" 10000000", 60), []string{strings.Repeat("\x01", 60)}, 25},
	}
	for _, x := range steps {
		t.Run(x.name, func(t *testing.T) {
			checkTake(t, r, strings.ReplaceAll(x.text, " ", ""), x.want, x.wants)
		})
	}
}

// Each bundle that begins and ends near the line that is wanted.
func TestTakeFromTheOneThatIsWanted(t *testing.T) {
	for _, wants := range []int{1, 2, 3, 7, 8, 9, 15, 256, 257} {
		for first := max(1, wants-9); first <= wants+4; first++ {
			for n := range 8 {
				r := wanting(t, wants)
				want, next := []string(nil), wants
				if first <= wants && first+n > wants {
					want, next = some(wants, first+n-wants), first+n
				}
				checkTake(t, r, spell(uint64(first), some(first, n)), want, uint32(next))
				// The same again gives none, and what is wanted then comes still.
				checkTake(t, r, spell(uint64(first), some(first, n)), nil, uint32(next))
				checkTake(t, r, spell(uint64(next), some(next, 2)), some(next, 2), uint32(next+2))
			}
		}
	}
}

// What is given is what comes from there on, though the lines ahead are others now.
func TestTakeAsksForNumbersAlone(t *testing.T) {
	r := wanting(t, 5)
	checkTake(t, r, spell(3, []string{"x", "y", "z"}), []string{"z"}, 6)
	checkTake(t, r, spell(1, []string{"z", "z", "z", "z", "z"}), nil, 6)
	checkTake(t, r, spell(6, []string{"z", "z", "z"}), []string{"z", "z", "z"}, 9)
	checkTake(t, r, spell(8, []string{"z", "z", "z"}), []string{"z", "z"}, 11)
}

func TestTakeOfGreatNumbers(t *testing.T) {
	for _, wants := range []int{1, 2, 7, 8, 40} {
		r := wanting(t, wants)
		for _, first := range []uint64{uint64(wants) + 1, uint64(wants) + 7, uint64(wants) + 8, uint64(wants) + 1<<8, uint64(wants) + 1<<16, uint64(wants) + 1<<31, 1<<31 - 1, 1 << 31, 1<<31 + 1, math.MaxUint32 - 8, math.MaxUint32 - 7, math.MaxUint32 - 6, math.MaxUint32 - 5, math.MaxUint32 - 1, math.MaxUint32} {
			for n := 1; n <= 7; n++ {
				checkTake(t, r, spell(first, some(wants, n)), nil, uint32(wants))
			}
		}
		checkTake(t, r, spell(uint64(wants), some(wants, 3)), some(wants, 3), uint32(wants+3))
	}
}

func TestTakeRefusesTheNumberZero(t *testing.T) {
	for _, wants := range []int{1, 2, 3, 7, 8, 30} {
		r := wanting(t, wants)
		for n := 1; n <= 7; n++ {
			checkNone(t, r, spell(0, some(wants, n)))
		}
		checkTake(t, r, spell(uint64(wants), some(wants, 7)), some(wants, 7), uint32(wants+7))
	}
}

// A line's length at each place of a bundle, whether the bundle comes in time, or
// is old, or begins behind.
func TestTakeOfLengths(t *testing.T) {
	for _, first := range []int{1, 2, 7, 8, 9, 10, 300} {
		for n := 1; n <= 7; n++ {
			for at := range n {
				for _, length := range []int{0, 1, 2, 31, 32, 59, 60, 61, 62, 63} {
					lines := some(first, n)
					lines[at] = line(length, 9)
					text := spell(uint64(first), lines)
					r := wanting(t, 8)
					if length == 0 || length > 60 {
						checkNone(t, r, text)
						checkNone(t, r, text+told(0, 600))
						continue
					}
					want, _, _ := (&ear{had: 7}).hear(text)
					checkTake(t, r, text, want, uint32(8+len(want)))
				}
			}
		}
	}
}

// Bits that end anywhere in a bundle are none, and just behind the last one they
// are one. Other bits stand ahead, so that they can end at each bit.
func TestTakeOfBitsThatEnd(t *testing.T) {
	bundles := []string{
		spell(3, []string{"a"}),
		spell(3, []string{"\x00"}),
		spell(3, []string{"\x00", "\x00\x00"}),
		spell(1, []string{"a", "bc", "\xff\xff"}),
		spell(3, sevenLines),
		spell(9, sevenLines),
		spell(math.MaxUint32, []string{line(60, 1)}),
		spell(2, some(40, 7)),
		"000",
	}
	for _, whole := range bundles {
		for end := range len(whole) + 1 {
			r := wanting(t, 3)
			ahead := (8 - end%8) % 8
			b := bits.New(pack(strings.Repeat("1", ahead) + whole[:end]))
			b.Take(ahead)
			want, heard, _ := (&ear{had: 2}).hear(whole[:end])
			if heard != (end == len(whole)) {
				t.Fatalf("the second telling hears %d of %d bits: %v", end, len(whole), heard)
			}
			got, ok := r.Take(b)
			if ok != heard || !slices.Equal(got, want) {
				t.Fatalf("Take of %d of %d bits = %q, %v", end, len(whole), got, ok)
			}
			if ok && b.Left() != 0 {
				t.Fatalf("of %d bits %d are left", len(whole), b.Left())
			}
			checkWants(t, r, uint32(3+len(want)))
			if !ok {
				checkTake(t, r, spell(3, sevenLines), sevenLines, 10)
			}
		}
	}
}

func TestTakeBetweenOthers(t *testing.T) {
	for ahead := range 65 {
		for _, n := range []int{0, 1, 2, 7} {
			r := wanting(t, 4)
			x := uint64(0xa5f0_c3e1_9687_1234)
			text := told(x, ahead) + spell(3, some(3, n)) + "101" + spell(9, sevenLines) + told(x, 64)
			b := bits.New(pack(text))
			if got := b.Take(ahead); ahead < 64 && got != x&(1<<ahead-1) {
				t.Fatalf("%d bits ahead are %d", ahead, got)
			}
			want, _, _ := (&ear{had: 3}).hear(spell(3, some(3, n)))
			if got, ok := r.Take(b); !ok || !slices.Equal(got, want) {
				t.Fatalf("%d lines behind %d bits: %q, %v", n, ahead, got, ok)
			}
			if got := b.Take(3); got != 5 {
				t.Fatalf("behind %d lines behind %d bits stands %d", n, ahead, got)
			}
			// A bundle of which nothing is given is taken too.
			if got, ok := wanting(t, 1).Take(b); !ok || len(got) != 0 || b.Take(64) != x {
				t.Fatalf("behind a bundle that begins behind: %q, %v", got, ok)
			}
		}
	}
}

// Several bundles in one row of bits.
func TestTakeOfBundlesSideBySide(t *testing.T) {
	r := &Receiver{}
	b := bits.New(pack(spell(2, some(2, 3)) + spell(1, some(1, 2)) + "000" + spell(1, some(1, 7)) + spell(2, some(2, 7)) + "000"))
	for i, want := range [][]string{nil, some(1, 2), nil, some(3, 5), some(8, 1), nil} {
		if got, ok := r.Take(b); !ok || !slices.Equal(got, want) {
			t.Fatalf("the bundle %d gives %q, %v", i, got, ok)
		}
	}
	checkWants(t, r, 9)
	if !b.Done() {
		t.Errorf("%d bits are left", b.Left())
	}
}

// Lines are bytes, whatever they stand for.
func TestTakeOfEachLine(t *testing.T) {
	r, wants := &Receiver{}, 1
	give := func(lines ...string) {
		t.Helper()
		checkTake(t, r, spell(uint64(wants), lines), lines, uint32(wants+len(lines)))
		wants += len(lines)
	}
	for x := range 256 {
		give(string([]byte{byte(x)}), string([]byte{255, byte(x), 0}))
	}
	for n := 1; n <= 60; n++ {
		give(line(n, luck(n)), strings.Repeat("\x00", n), strings.Repeat("\xff", n), strings.Repeat("\xe2\x96", n)[:n])
	}
	give("\xe2\x96\x88", "\xe2\x96", "\x88", "\xef\xbf\xbd", "\n", " ", "\x00")
}

func TestTakeOfManyLines(t *testing.T) {
	r := wanting(t, 70001)
	checkTake(t, r, spell(1, some(1, 7)), nil, 70001)
	checkTake(t, r, spell(70001&0xffff, some(70001, 7)), nil, 70001)
	checkTake(t, r, spell(70001+1<<16, some(70001, 7)), nil, 70001)
	checkTake(t, r, spell(69998, some(69998, 7)), some(70001, 4), 70005)
}

// Bytes that look like chance, of which few are a bundle's, with numbers near the
// one that is wanted.
func TestTakeOfAnyBytes(t *testing.T) {
	given, none, old := 0, 0, 0
	for seed := range luck(6000) {
		l := seed*31 + 7
		count := l.below(8)
		text := told(uint64(count), 3)
		if count > 0 {
			text += told(uint64(l.below(12)), 32)
		}
		for range count - l.below(10)/9 {
			n := 1 + l.below(4)
			if l.below(20) == 0 {
				n = l.below(64)
			}
			text += spellLine(n, line(n, l))
		}
		if l.below(6) == 0 {
			text = text[:l.below(len(text)+1)]
		}
		if l.below(3) == 0 {
			text += told(uint64(l.below(1<<20)), l.below(20))
		}
		had := l.below(10)
		r, e := wanting(t, had+1), &ear{had: uint64(had)}
		text = unpack(pack(text))
		want, ok, left := e.hear(text)
		if !ok {
			none++
			checkNone(t, r, text)
			continue
		}
		b := bits.New(pack(text))
		got, gotOK := r.Take(b)
		if !gotOK || !slices.Equal(got, want) || b.Left() != left {
			t.Fatalf("row %d: Take(%s) = %q, %v, %d left, not %q, %d left", seed, brief(text), got, gotOK, b.Left(), want, left)
		}
		checkWants(t, r, uint32(had+1+len(want)))
		if len(want) > 0 {
			given++
		} else {
			old++
		}
	}
	if given < 1000 || none < 1000 || old < 1000 {
		t.Errorf("%d given, %d none, %d of nothing", given, none, old)
	}
}
