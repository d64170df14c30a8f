package fragment

import (
	"bytes"
	"slices"
	"testing"

	"ricochet/api"
)

func TestAZeroAssemblerKeepsNothing(t *testing.T) {
	checkWaits(t, &Assembler{}, 0)
	checkWaits(t, new(Assembler), 0)
	var a Assembler
	checkWaits(t, &a, 0)
	checkRefused(t, &a, nil, api.ErrForm)
	checkPart(t, &a, nth(0, 2, 0), 1)
}

func TestTheExample(t *testing.T) {
	b := text(301, 15)
	parts, e := Split(9, b)
	if e != api.OK || len(parts) != 2 || len(parts[0]) != 303 || len(parts[1]) != 4 {
		t.Fatalf("%d parts, %v", len(parts), e)
	}
	for _, order := range [][]int{{0, 1}, {1, 0}} {
		a := &Assembler{}
		checkPart(t, a, parts[order[0]], 1)
		checkWhole(t, a, parts[order[1]], b, 0)
	}
}

// Three parts that are written out, in each order.
func TestFeedWrittenOut(t *testing.T) {
	sevens := bytes.Repeat([]byte{7}, 300)
	eights := bytes.Repeat([]byte{8}, 300)
	parts := [][]byte{
		append([]byte{0x34, 0x12, 0x02}, sevens...),
		append([]byte{0x34, 0x12, 0x12}, eights...),
		{0x34, 0x12, 0x22, 3, 0, 255},
	}
	want := slices.Concat(sevens, eights, []byte{3, 0, 255})
	for _, order := range [][]int{{0, 1, 2}, {0, 2, 1}, {1, 0, 2}, {1, 2, 0}, {2, 0, 1}, {2, 1, 0}} {
		a := &Assembler{}
		checkPart(t, a, parts[order[0]], 1)
		checkPart(t, a, parts[order[1]], 1)
		checkWhole(t, a, parts[order[2]], want, 0)
	}
}

// A message of one part is whole at once, and at once again.
func TestFeedOfMessagesOfOnePart(t *testing.T) {
	a := &Assembler{}
	checkWhole(t, a, []byte{0, 0, 0, 7}, []byte{7}, 0)
	checkWhole(t, a, []byte{0, 0, 0, 0}, []byte{0}, 0)
	for _, id := range []uint16{0, 1, 255, 256, 65535} {
		for _, n := range []int{1, 2, 3, 150, 299, 300} {
			b := text(n, luck(n))
			for range 3 {
				checkWhole(t, a, spell(id, 1, 0, b), b, 0)
			}
		}
	}
	// Beside others, of its own id too, which it leaves as they are.
	checkPart(t, a, nth(5, 2, 0), 1)
	checkPart(t, a, nth(6, 2, 0), 2)
	checkPart(t, a, nth(7, 2, 0), 3)
	checkWhole(t, a, nth(5, 1, 0), whole(5, 1), 3)
	checkWhole(t, a, nth(8, 1, 0), whole(8, 1), 3)
	checkWhole(t, a, nth(5, 2, 1), whole(5, 2), 2)
	checkWhole(t, a, nth(6, 2, 1), whole(6, 2), 1)
	checkWhole(t, a, nth(7, 2, 1), whole(7, 2), 0)
}

func TestFeedRefusesWhatIsNoPart(t *testing.T) {
	own := func(third byte, n int) []byte {
		return append([]byte{1, 2, third}, bytes.Repeat([]byte{5}, n)...)
	}
	cases := []struct {
		name string
		part []byte
		want api.Errno
	}{
		{"nothing", nil, api.ErrForm},
		{"empty", []byte{}, api.ErrForm},
		{"empty, with room", []byte{1, 2, 0, 7}[:0], api.ErrForm},
		{"one byte", []byte{0}, api.ErrForm},
		{"two bytes", []byte{0, 0}, api.ErrForm},
		{"three bytes", []byte{0, 0, 0}, api.ErrForm},
		{"three bytes, with room", []byte{1, 2, 0, 7}[:3], api.ErrForm},
		{"three bytes of the last one of two", []byte{1, 2, 0x11}, api.ErrForm},
		{"four bytes", []byte{1, 2, 0, 7}, api.OK},
		{"302 bytes", own(0, 299), api.OK},
		{"303 bytes", own(0, 300), api.OK},
		{"304 bytes", own(0, 301), api.ErrForm},
		{"600 bytes of its own", own(0, 600), api.ErrForm},
		{"the first of two, full", own(0x01, 300), api.OK},
		{"the first of two, a byte short", own(0x01, 299), api.ErrForm},
		{"the first of two, a byte long", own(0x01, 301), api.ErrForm},
		{"the first of two, a byte", own(0x01, 1), api.ErrForm},
		{"the first of two, none", own(0x01, 0), api.ErrForm},
		{"the last of two, a byte", own(0x11, 1), api.OK},
		{"the last of two, full", own(0x11, 300), api.OK},
		{"the last of two, a byte long", own(0x11, 301), api.ErrForm},
		{"the third of two", own(0x21, 300), api.ErrForm},
		{"the third of two, a byte", own(0x21, 1), api.ErrForm},
		{"the second of one", own(0x10, 300), api.ErrForm},
		{"the second of one, a byte", own(0x10, 1), api.ErrForm},
		{"the last place, of one", own(0xf0, 300), api.ErrForm},
		{"the one but last of 14, full", own(0xcd, 300), api.OK},
		{"the one but last of 14, a byte short", own(0xcd, 299), api.ErrForm},
		{"the last of 14, full", own(0xdd, 300), api.OK},
		{"the last of 14, a byte", own(0xdd, 1), api.OK},
		{"the 15th of 14", own(0xed, 300), api.ErrForm},
		{"the 16th of 14", own(0xfd, 300), api.ErrForm},
		{"the first of 15", own(0x0e, 300), api.ErrForm},
		{"the 14th of 15", own(0xde, 300), api.ErrForm},
		{"the last of 15", own(0xee, 300), api.ErrForm},
		{"the last of 15, a byte", own(0xee, 1), api.ErrForm},
		{"the first of 16", own(0x0f, 300), api.ErrForm},
		{"the last of 16", own(0xff, 300), api.ErrForm},
		{"the last of 16, a byte", own(0xff, 1), api.ErrForm},
	}
	for _, x := range cases {
		t.Run(x.name, func(t *testing.T) {
			a := &Assembler{}
			if x.want != api.OK {
				checkRefused(t, a, x.part, x.want)
				checkWaits(t, a, 0)
				return
			}
			if _, _, e := a.Feed(x.part); e != api.OK {
				t.Fatalf("refused: %v", e)
			}
		})
	}
}

// Each third byte, with each length near the edges, against a second telling.
func TestFeedOfEachCountAndPlace(t *testing.T) {
	lengths := []int{0, 1, 2, 3, 4, 5, 102, 103, 104, 298, 299, 300, 301, 302, 303, 304, 305, 400, 603, 1400, 4003}
	for third := range 256 {
		for _, n := range lengths {
			for _, fill := range []byte{0, 255} {
				part := bytes.Repeat([]byte{fill}, n)
				if n > 2 {
					part[2] = byte(third)
				}
				a, s := &Assembler{}, &shelf{}
				want, ok, e := s.feed(part)
				if e != api.OK {
					checkRefused(t, a, part, e)
				} else if ok {
					checkWhole(t, a, part, want, 0)
				} else {
					checkPart(t, a, part, 1)
				}
			}
		}
	}
}

func TestFeedRefusesWhatIsTooLong(t *testing.T) {
	a := &Assembler{}
	for _, n := range []int{65536, 65539, 1 << 20, 1<<20 + 300} {
		for _, third := range []byte{0, 0x01, 0x11} {
			checkRefused(t, a, spell(1, 1, 0, make([]byte, n)), api.ErrForm)
			part := make([]byte, n)
			part[2] = third
			checkRefused(t, a, part, api.ErrForm)
		}
	}
	checkWaits(t, a, 0)
}

// What is refused changes nothing: neither what is kept nor whose turn it is to go.
func TestWhatIsNoPartChangesNothing(t *testing.T) {
	a := &Assembler{}
	for id := range uint16(4) {
		checkPart(t, a, nth(id, 3, 1), int(id)+1)
	}
	bad := [][]byte{nil, {5}, {5, 0}, {5, 0, 0}, {0, 0, 0x22}, {0, 0, 0x02, 9}, {5, 0, 0x01, 9}, {5, 0, 0x10, 9}, {5, 0, 0xee, 9}, {5, 0, 0x0f, 9}}
	for id := range uint16(6) {
		bad = append(bad, nth(id, 2, 0)[:302], append(nth(id, 3, 1), 0), append(nth(id, 3, 0), 0), spell(id, 3, 3, []byte{1}), spell(id, 3, 1, []byte{1}), spell(id, 3, 2, nil))
	}
	for _, part := range bad {
		checkRefused(t, a, part, api.ErrForm)
	}
	for id := range uint16(4) {
		checkPart(t, a, nth(id, 3, 2), 4-int(id))
		checkWhole(t, a, nth(id, 3, 0), whole(id, 3), 3-int(id))
	}
}

func TestFeedRefusesWhatIsKept(t *testing.T) {
	for _, count := range []int{2, 3, 13, 14} {
		a := &Assembler{}
		parts := cut(77, whole(77, count))
		for i, part := range parts[:count-1] {
			checkPart(t, a, part, 1)
			for range 2 {
				for _, kept := range parts[:i+1] {
					checkRefused(t, a, kept, api.ErrOld)
				}
			}
		}
		checkWhole(t, a, parts[count-1], whole(77, count), 0)
	}
}

// It is by id, count and place that a part is kept, whatever its bytes are, and
// the one that came first stays.
func TestFeedRefusesOthersInAPlaceThatIsKept(t *testing.T) {
	a := &Assembler{}
	first, last := text(300, 1), text(20, 2)
	checkPart(t, a, spell(5, 3, 2, last), 1)
	checkPart(t, a, spell(5, 3, 0, first), 1)
	for _, n := range []int{1, 19, 20, 21, 299, 300} {
		checkRefused(t, a, spell(5, 3, 2, text(n, 3)), api.ErrOld)
	}
	checkRefused(t, a, spell(5, 3, 0, text(300, 4)), api.ErrOld)
	checkRefused(t, a, spell(5, 3, 0, make([]byte, 300)), api.ErrOld)
	// No part's bytes are no part's bytes in such a place too.
	checkRefused(t, a, spell(5, 3, 0, text(299, 4)), api.ErrForm)
	checkRefused(t, a, spell(5, 3, 2, nil), api.ErrForm)
	checkRefused(t, a, spell(5, 3, 2, text(301, 4)), api.ErrForm)
	middle := text(300, 5)
	checkWhole(t, a, spell(5, 3, 1, middle), slices.Concat(first, middle, last), 0)
}

// A part of a message that was whole begins it anew.
func TestFeedBehindAWholeMessage(t *testing.T) {
	a := &Assembler{}
	b := whole(9, 3)
	parts := cut(9, b)
	for range 3 {
		checkPart(t, a, parts[1], 1)
		checkPart(t, a, parts[2], 1)
		checkWhole(t, a, parts[0], b, 0)
	}
	checkPart(t, a, parts[0], 1)
	checkRefused(t, a, parts[0], api.ErrOld)
	// Nothing is left of what was whole then, and it may be another one now.
	other := text(650, 8)
	checkPart(t, a, spell(9, 3, 1, other[300:600]), 1)
	checkWhole(t, a, spell(9, 3, 2, other[600:]), append(slices.Clone(b[:300]), other[300:]...), 0)
}

// 14 full parts are more than Split makes of any message.
func TestFeedOfFourteenFullParts(t *testing.T) {
	b := text(4200, 6)
	for _, order := range [][]int{{0, 1, 2, 3, 4, 5, 6, 7, 8, 9, 10, 11, 12, 13}, {13, 12, 11, 10, 9, 8, 7, 6, 5, 4, 3, 2, 1, 0}, {7, 0, 13, 1, 12, 6, 8, 2, 11, 5, 9, 3, 10, 4}} {
		a := &Assembler{}
		parts := cut(65535, b)
		for _, at := range order[:13] {
			checkPart(t, a, parts[at], 1)
		}
		checkWhole(t, a, parts[order[13]], b, 0)
	}
	for _, n := range []int{4001, 4002, 4100, 4199} {
		a := &Assembler{}
		parts := cut(3, b[:n])
		for _, part := range parts[1:] {
			checkPart(t, a, part, 1)
		}
		checkWhole(t, a, parts[0], b[:n], 0)
	}
}

// Messages of the same bytes throughout, which nothing tells apart but the place.
func TestFeedOfBytesThatAreAlike(t *testing.T) {
	for _, fill := range []byte{0, 255} {
		for _, n := range []int{1, 300, 301, 600, 901, 3900, 4000} {
			b := bytes.Repeat([]byte{fill}, n)
			a := &Assembler{}
			parts := cut(0, b)
			for _, part := range parts[1:] {
				checkPart(t, a, part, 1)
			}
			checkWhole(t, a, parts[0], b, 0)
		}
	}
}
