package fragment

import (
	"bytes"
	"slices"
	"testing"

	"ricochet/api"
)

func TestNoAssembler(t *testing.T) {
	var a *Assembler
	for range 2 {
		checkWaits(t, a, 0)
		for _, x := range []struct {
			id    uint16
			count int
		}{{0, 1}, {9, 2}, {65535, 14}} {
			for _, part := range cut(x.id, whole(x.id, x.count)) {
				for range 2 {
					if got, ok, e := a.Feed(part); e != api.ErrNone || ok || len(got) != 0 {
						t.Fatalf("Feed(%s) = %s, %v, %v", brief(part), brief(got), ok, e)
					}
				}
			}
		}
		// Which of two errors it is counts for less here than that it is one.
		for _, part := range [][]byte{nil, {}, {1, 2, 0}, {1, 2, 0x10, 7}, {1, 2, 0xee, 7}, make([]byte, 304)} {
			if got, ok, e := a.Feed(part); e == api.OK || ok || len(got) != 0 {
				t.Fatalf("Feed(%s) = %s, %v, %v", brief(part), brief(got), ok, e)
			}
		}
	}
}

// roomy is b with room behind it, and all of that memory.
func roomy(b []byte) ([]byte, []byte) {
	memory := slices.Concat([]byte{91, 92, 93}, b, bytes.Repeat([]byte{94}, 900))
	return memory[3 : 3+len(b)], memory
}

// scrawl writes over b, its spare room too.
func scrawl(b []byte) {
	b = b[:cap(b)]
	for i := range b {
		b[i] ^= 0xa5
	}
}

func TestSplitLeavesTheMessage(t *testing.T) {
	for _, n := range []int{1, 299, 300, 301, 600, 601, 4000, 0, 4001} {
		b, memory := roomy(text(n, luck(n)))
		before := slices.Clone(memory)
		Split(0x5678, b)
		if !bytes.Equal(memory, before) {
			t.Errorf("of %d bytes the memory isn't what it was", n)
		}
	}
}

func TestSplitAnswersNewMemory(t *testing.T) {
	for _, n := range []int{1, 299, 300, 301, 600, 601, 4000} {
		b, memory := roomy(text(n, luck(n)))
		before := slices.Clone(memory)
		want := cut(9, slices.Clone(b))
		first, _ := Split(9, b)
		second, _ := Split(9, b)
		for i := range first {
			scrawl(first[i])
			if !slices.EqualFunc(first[i+1:], want[i+1:], bytes.Equal) {
				t.Fatalf("of %d bytes: the part %d has memory of others", n, i)
			}
		}
		for i := len(second) - 1; i >= 0; i-- {
			if !slices.EqualFunc(second[:i+1], want[:i+1], bytes.Equal) {
				t.Fatalf("of %d bytes: what is split twice, or the part %d, has memory of others", n, i+1)
			}
			scrawl(second[i])
		}
		if !bytes.Equal(memory, before) {
			t.Fatalf("of %d bytes: the parts have the message's memory", n)
		}
		third, _ := Split(9, b)
		scrawl(memory)
		if !slices.EqualFunc(third, want, bytes.Equal) {
			t.Fatalf("of %d bytes: the parts hang on the message", n)
		}
	}
}

// A list of parts may be drawn out and written over.
func TestSplitAnswersANewList(t *testing.T) {
	b := text(4000, 1)
	first, _ := Split(9, b)
	second, _ := Split(9, b)
	room := first[:cap(first)]
	for i := range room {
		room[i] = nil
	}
	if !slices.EqualFunc(second, cut(9, b), bytes.Equal) {
		t.Error("the list of parts is nobody's own")
	}
}

func TestFeedLeavesThePart(t *testing.T) {
	a := &Assembler{}
	parts := append(cut(9, whole(9, 3)), nth(9, 3, 0), nth(9, 3, 0), nth(8, 1, 0), []byte{}, []byte{1, 2, 0x10, 7}, make([]byte, 304))
	for _, b := range parts {
		part, memory := roomy(b)
		before := slices.Clone(memory)
		a.Feed(part)
		if !bytes.Equal(memory, before) {
			t.Errorf("the memory of %s isn't what it was", brief(b))
		}
		var none *Assembler
		none.Feed(part)
		if !bytes.Equal(memory, before) {
			t.Errorf("the memory of %s isn't what it was, with no assembler", brief(b))
		}
	}
}

// What was fed may be written over, when the message isn't whole yet, and when it is.
func TestWhatWasFedMayTurn(t *testing.T) {
	for _, count := range []int{1, 2, 3, 14} {
		a := &Assembler{}
		b := whole(299, count)
		for i, x := range cut(299, b) {
			part, memory := roomy(x)
			got, ok, e := a.Feed(part)
			scrawl(memory)
			if last := i == count-1; ok != last || e != api.OK || last && !bytes.Equal(got, b) {
				t.Fatalf("the part %d of %d: %s, %v, %v", i, count, brief(got), ok, e)
			}
		}
	}
}

// All parts come in one memory, as datagrams do.
func TestPartsInOneMemory(t *testing.T) {
	a := &Assembler{}
	memory := make([]byte, 303)
	for _, id := range []uint16{3, 4} {
		for place := range 2 {
			n := copy(memory, nth(id, 3, place))
			checkPart(t, a, memory[:n], int(id)-2)
		}
	}
	for _, id := range []uint16{3, 4} {
		n := copy(memory, nth(id, 3, 2))
		checkWhole(t, a, memory[:n], whole(id, 3), 4-int(id))
	}
}

// A part that is refused isn't kept in another's place, though it turns later.
func TestWhatIsRefusedMayTurn(t *testing.T) {
	a := &Assembler{}
	checkPart(t, a, nth(9, 2, 0), 1)
	refused, memory := roomy(nth(9, 2, 0))
	checkRefused(t, a, refused, api.ErrOld)
	scrawl(memory)
	short, memory := roomy(nth(9, 2, 1)[:3])
	checkRefused(t, a, short, api.ErrForm)
	scrawl(memory)
	checkWhole(t, a, nth(9, 2, 1), whole(9, 2), 0)
}

// What was answered may be written over, and stays when the assembler goes on.
func TestFeedAnswersNewMemory(t *testing.T) {
	for _, count := range []int{1, 2, 14} {
		a := &Assembler{}
		b := whole(298, count)
		parts := cut(298, b)
		checkPart(t, a, nth(1, 3, 0), 1)
		feedAll := func() []byte {
			for _, part := range parts[:count-1] {
				checkPart(t, a, part, 2)
			}
			got, ok, e := a.Feed(parts[count-1])
			if !ok || e != api.OK || !bytes.Equal(got, b) {
				t.Fatalf("of %d parts: %s, %v, %v", count, brief(got), ok, e)
			}
			return got
		}
		first, second := feedAll(), feedAll()
		scrawl(first)
		if !bytes.Equal(second, b) {
			t.Fatalf("of %d parts: what is given twice has one memory", count)
		}
		if !slices.EqualFunc(parts, cut(298, b), bytes.Equal) {
			t.Fatalf("of %d parts: what is given has the parts' memory", count)
		}
		held := feedAll()
		checkPart(t, a, nth(1, 3, 1), 1)
		for id := range uint16(9) {
			a.Feed(nth(900+id, 2, 1))
		}
		if !bytes.Equal(held, b) || !bytes.Equal(second, b) {
			t.Fatalf("of %d parts: what was given turns later", count)
		}
	}
}

// What is answered doesn't reach what is kept of others.
func TestWhatIsGivenLeavesTheOthers(t *testing.T) {
	a := &Assembler{}
	checkPart(t, a, nth(1, 3, 0), 1)
	checkPart(t, a, nth(2, 3, 0), 2)
	for place := range 13 {
		checkPart(t, a, nth(3, 14, place), 3)
	}
	got, _, _ := a.Feed(nth(3, 14, 13))
	scrawl(got)
	checkPart(t, a, nth(1, 3, 1), 2)
	checkPart(t, a, nth(2, 3, 2), 2)
	checkWhole(t, a, nth(1, 3, 2), whole(1, 3), 1)
	checkWhole(t, a, nth(2, 3, 1), whole(2, 3), 0)
}

func TestTwoAssemblersDoNotHangOnOneAnother(t *testing.T) {
	a, b := &Assembler{}, &Assembler{}
	checkPart(t, a, nth(7, 3, 0), 1)
	checkWaits(t, b, 0)
	checkPart(t, b, nth(7, 3, 1), 1)
	checkPart(t, b, nth(7, 3, 0), 1)
	checkPart(t, a, nth(7, 3, 2), 1)
	for id := range uint16(4) {
		checkPart(t, b, nth(id, 2, 0), min(int(id)+2, 4))
	}
	checkWhole(t, a, nth(7, 3, 1), whole(7, 3), 0)
	checkPart(t, b, nth(7, 3, 2), 4)
	checkWhole(t, b, nth(3, 2, 1), whole(3, 2), 3)
	checkWaits(t, a, 0)
}

// Split hangs on nothing but what it is handed.
func TestSplitKeepsNothing(t *testing.T) {
	long, short := text(4000, 1), text(5, 2)
	for range 3 {
		checkSplit(t, 1, long, cut(1, long))
		checkSplit(t, 2, short, cut(2, short))
		if _, e := Split(3, nil); e != api.ErrArg {
			t.Fatalf("of no bytes: %v", e)
		}
		if _, e := Split(3, make([]byte, 4001)); e != api.ErrLong {
			t.Fatalf("of 4001 bytes: %v", e)
		}
	}
}
