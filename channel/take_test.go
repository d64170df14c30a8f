package channel

import (
	"testing"

	"ricochet/serial"
)

func TestTakeTheExample(t *testing.T) {
	c := sent(2)
	checkTake(t, c, telling(0, 1, 0), 1)
	checkOpen(t, c, 0)
}

// What comes in order, late, twice, and not at all.
func TestTakeNotesWhatCame(t *testing.T) {
	c := &Channel{}
	checkTake(t, c, bare(0))
	checkTake(t, c, bare(1))
	checkTake(t, c, bare(2))
	checkWindow(t, c, serial.Window{Any: true, Last: 2, Mask: 3})
	checkOld(t, c, bare(1))
	checkOld(t, c, bare(2))
	checkOld(t, c, bare(0))
	// 3 is late, and 4 doesn't come at all.
	checkTake(t, c, bare(5))
	checkWindow(t, c, serial.Window{Any: true, Last: 5, Mask: 28})
	checkTake(t, c, bare(3))
	checkWindow(t, c, serial.Window{Any: true, Last: 5, Mask: 30})
	checkOld(t, c, bare(3))
	checkTake(t, c, bare(6))
	checkWindow(t, c, serial.Window{Any: true, Last: 6, Mask: 61})
	checkOld(t, c, bare(5))
	checkOld(t, c, bare(6))
	checkTake(t, c, bare(4))
	checkWindow(t, c, serial.Window{Any: true, Last: 6, Mask: 63})
	checkOpen(t, c)
}

// The first one of all is new, whichever it is.
func TestTakeOfTheFirst(t *testing.T) {
	for _, n := range []uint16{0, 1, 32, 33, 32767, 32768, 65535} {
		c := &Channel{}
		checkTake(t, c, bare(n))
		checkWindow(t, c, serial.Window{Any: true, Last: n})
		checkOld(t, c, bare(n))
	}
}

func TestTakeFarAheadOfTheLatest(t *testing.T) {
	for _, last := range []uint16{100, 33, 32, 31, 5, 0, 32768, 65535} {
		c := sent(2)
		checkTake(t, c, bare(last))
		for _, ahead := range []int{33, 34, 64, 100, 32767, 32768} {
			checkOld(t, c, telling(on(last, -ahead), 1, 1))
		}
		checkTake(t, c, telling(on(last, -32), 1, 0), 1)
		checkWindow(t, c, serial.Window{Any: true, Last: last, Mask: 0x80000000})
		checkOld(t, c, telling(on(last, -32), 0, 0))
		checkTake(t, c, telling(on(last, -31), 0, 0), 0)
		checkWindow(t, c, serial.Window{Any: true, Last: last, Mask: 0xc0000000})
	}
}

func TestTakeFarBehindTheLatest(t *testing.T) {
	c := &Channel{}
	checkTake(t, c, bare(9))
	checkTake(t, c, bare(41))
	checkWindow(t, c, serial.Window{Any: true, Last: 41, Mask: 0x80000000})
	checkTake(t, c, bare(74))
	checkWindow(t, c, serial.Window{Any: true, Last: 74})
	checkOld(t, c, bare(41))
	checkTake(t, c, bare(74+32767))
	checkWindow(t, c, serial.Window{Any: true, Last: 32841})
	// 74 lies 32767 ahead of it, 73 half around, and 72 lies 32767 behind it.
	checkOld(t, c, bare(74))
	checkOld(t, c, bare(73))
	checkTake(t, c, bare(72))
	checkWindow(t, c, serial.Window{Any: true, Last: 72})
}

func TestTakeAroundTheEnd(t *testing.T) {
	c := &Channel{}
	checkTake(t, c, bare(65534))
	checkTake(t, c, bare(65535))
	checkTake(t, c, bare(1))
	checkWindow(t, c, serial.Window{Any: true, Last: 1, Mask: 6})
	checkOld(t, c, bare(65535))
	checkTake(t, c, bare(0))
	checkWindow(t, c, serial.Window{Any: true, Last: 1, Mask: 7})
	checkTake(t, c, bare(65505))
	checkOld(t, c, bare(65504))
	checkWindow(t, c, serial.Window{Any: true, Last: 1, Mask: 0x80000007})
}

func TestTakeAcks(t *testing.T) {
	cases := []struct {
		name        string
		sent        int
		h           Header
		acked, open []uint16
	}{
		{"nothing sent", 0, telling(0, 0, 0xffffffff), nil, nil},
		{"none came there", 3, bare(0), nil, span(0, 2)},
		{"none came there, an Ack", 3, Header{Ack: 1}, nil, span(0, 2)},
		{"none came there, a Mask", 3, Header{Mask: 0xffffffff}, nil, span(0, 2)},
		{"none came there, both", 3, Header{Ack: 2, Mask: 3}, nil, span(0, 2)},
		{"the first", 3, telling(0, 0, 0), []uint16{0}, []uint16{1, 2}},
		{"one in between", 3, telling(0, 1, 0), []uint16{1}, []uint16{0, 2}},
		{"the last", 3, telling(0, 2, 0), []uint16{2}, []uint16{0, 1}},
		{"the first two", 3, telling(0, 1, 1), []uint16{0, 1}, []uint16{2}},
		{"the last two", 3, telling(0, 2, 1), []uint16{1, 2}, []uint16{0}},
		{"the first and the last", 3, telling(0, 2, 2), []uint16{0, 2}, []uint16{1}},
		{"all", 3, telling(0, 2, 3), span(0, 2), nil},
		{"all, and some ahead of 0", 3, telling(0, 2, 0xffffffff), span(0, 2), nil},
		{"mixed", 10, telling(0, 8, 0x55), []uint16{1, 3, 5, 7, 8}, []uint16{0, 2, 4, 6, 9}},
		{"mixed otherwise", 10, telling(0, 8, 0xaa), []uint16{0, 2, 4, 6, 8}, []uint16{1, 3, 5, 7, 9}},
		{"one never sent", 3, telling(0, 3, 0), nil, span(0, 2)},
		{"one never sent, and the last", 3, telling(0, 3, 1), []uint16{2}, []uint16{0, 1}},
		{"one never sent, and all", 3, telling(0, 5, 0xffffffff), span(0, 2), nil},
		{"one never sent, 32 behind 0", 3, telling(0, 32, 0xffffffff), span(0, 2), nil},
		{"one never sent, 33 behind 0", 3, telling(0, 33, 0xffffffff), []uint16{1, 2}, []uint16{0}},
		{"one never sent, 36 behind 0", 3, telling(0, 36, 0xffffffff), nil, span(0, 2)},
		{"one never sent, ahead of 0", 3, telling(0, 65535, 0xffffffff), nil, span(0, 2)},
		{"one never sent, half around", 3, telling(0, 32769, 0xffffffff), nil, span(0, 2)},
		{"32 and 33 ahead", 64, telling(0, 40, 0xffffffff), span(8, 40), append(span(0, 7), span(41, 63)...)},
		{"32 ahead alone", 64, telling(0, 40, 0x80000000), []uint16{8, 40}, append(span(0, 7), append(span(9, 39), span(41, 63)...)...)},
		{"the first of 64", 64, telling(0, 0, 0xffffffff), []uint16{0}, span(1, 63)},
		{"the last 33 of 64", 64, telling(0, 63, 0xffffffff), span(31, 63), span(0, 30)},
		{"the one given up of 65", 65, telling(0, 0, 0), nil, span(1, 64)},
		{"beside the one given up of 65", 65, telling(0, 1, 1), []uint16{1}, span(2, 64)},
		{"those given up of 80", 80, telling(0, 15, 0xffffffff), nil, span(16, 79)},
		{"around the given up of 80", 80, telling(0, 17, 0xffffffff), []uint16{16, 17}, span(18, 79)},
		{"around the end", 65536 + 2, telling(0, 0, 5), []uint16{65533, 65535, 0}, append(append(span(65474, 65532), 65534), 1)},
		{"around the end, all 33", 65536 + 2, telling(0, 0, 0xffffffff), span(65504, 0), append(span(65474, 65503), 1)},
		{"around the end, ahead of it", 65536 + 2, telling(0, 65535, 0), []uint16{65535}, append(span(65474, 65534), 0, 1)},
		{"around the end, the last", 65536 + 2, telling(0, 1, 0), []uint16{1}, span(65474, 0)},
		{"around the end, never sent", 65536 + 2, telling(0, 2, 0), nil, span(65474, 1)},
	}
	for _, x := range cases {
		t.Run(x.name, func(t *testing.T) {
			c := sent(x.sent)
			checkTake(t, c, x.h, x.acked...)
			checkOpen(t, c, x.open...)
			checkWindow(t, c, serial.Window{Any: true, Last: x.h.Number})
		})
	}
}

// Each of the 32 bits of a mask for itself, and each but one.
func TestTakeAcksByEachBit(t *testing.T) {
	for i := range uint16(32) {
		c := sent(64)
		checkTake(t, c, telling(0, 50, 1<<i), 49-i, 50)
		others := append(span(0, 48-i), span(50-i, 49)...)
		if i == 0 {
			others = span(0, 48)
		}
		checkOpen(t, c, append(others, span(51, 63)...)...)
		c = sent(64)
		checkTake(t, c, telling(0, 50, ^uint32(1<<i)), withoutOne(span(18, 50), 49-i)...)
		checkOpen(t, c, append(append(span(0, 17), 49-i), span(51, 63)...)...)
	}
}

func withoutOne(l []uint16, n uint16) []uint16 {
	var rest []uint16
	for _, one := range l {
		if one != n {
			rest = append(rest, one)
		}
	}
	return rest
}

func TestTakeAcksEachOnce(t *testing.T) {
	c := sent(6)
	checkTake(t, c, telling(0, 3, 2), 1, 3)
	checkTake(t, c, telling(1, 3, 2))
	checkOpen(t, c, 0, 2, 4, 5)
	checkTake(t, c, telling(2, 3, 7), 0, 2)
	checkTake(t, c, telling(3, 4, 15), 4)
	checkTake(t, c, telling(4, 4, 15))
	checkOpen(t, c, 5)
	checkTake(t, c, telling(5, 5, 31), 5)
	checkTake(t, c, telling(6, 5, 31))
	checkOpen(t, c)
	checkSend(t, c, telling(6, 6, 63))
	checkTake(t, c, telling(7, 6, 63), 6)
}

// A header that comes late acks what it tells, though a later one came.
func TestTakeOfLateHeadersAcksToo(t *testing.T) {
	c := sent(5)
	checkTake(t, c, telling(9, 4, 0), 4)
	checkTake(t, c, telling(8, 3, 1), 2, 3)
	checkTake(t, c, telling(5, 4, 1))
	checkTake(t, c, telling(6, 1, 0), 1)
	checkOld(t, c, telling(6, 0, 0))
	checkOpen(t, c, 0)
}

// Of a header that is old nothing counts; the same window in a new one does.
func TestTakeOfOldHeadersAcksNothing(t *testing.T) {
	c := sent(4)
	checkTake(t, c, telling(100, 0, 0), 0)
	for _, n := range []uint16{100, 67, 66, 0, 65535, 32868, 32869} {
		checkOld(t, c, telling(n, 3, 0xffffffff))
		checkOld(t, c, bare(n))
		checkOld(t, c, Header{Number: n, Ack: 3, Mask: 7})
	}
	checkOpen(t, c, 1, 2, 3)
	checkWindow(t, c, serial.Window{Any: true, Last: 100})
	// Neither did it count as something sent.
	checkSend(t, c, telling(4, 100, 0))
	checkTake(t, c, telling(68, 3, 0xffffffff), 1, 2, 3)
	checkOpen(t, c, 4)
	checkSend(t, c, telling(5, 100, 0x80000000))
}

// What is given up isn't acked any more; what was sent later has other numbers.
func TestTakeOfWhatWasGivenUp(t *testing.T) {
	c := sent(64)
	checkTake(t, c, telling(0, 0, 0), 0)
	c.Send()
	checkOpen(t, c, span(1, 64)...)
	c.Send()
	checkTake(t, c, telling(1, 1, 0))
	checkTake(t, c, telling(2, 2, 3), 2)
	checkOpen(t, c, span(3, 65)...)
}

// A number that came round is acked anew, for it is another datagram's.
func TestTakeAcksWhatCameRound(t *testing.T) {
	c := sent(1)
	checkTake(t, c, telling(0, 0, 0), 0)
	for range 65535 {
		c.Send()
	}
	checkTake(t, c, telling(1, 0, 0))
	checkOpen(t, c, span(65472, 65535)...)
	checkSend(t, c, telling(0, 1, 1))
	checkTake(t, c, telling(2, 0, 1), 65535, 0)
	checkOpen(t, c, span(65473, 65534)...)
}

// Two that send to each other.
func TestTwoChannels(t *testing.T) {
	a, b := &Channel{}, &Channel{}
	a0, a1 := a.Send(), a.Send()
	b0 := b.Send()
	checkTake(t, b, a1)
	checkTake(t, a, b0)
	b1 := b.Send()
	if b1 != telling(1, 1, 0) {
		t.Fatalf("b sends %v", b1)
	}
	checkTake(t, b, a0)
	b2 := b.Send()
	if b2 != telling(2, 1, 1) {
		t.Fatalf("b sends %v", b2)
	}
	checkTake(t, a, b2, 0, 1)
	checkTake(t, a, b1)
	checkOld(t, a, b1)
	checkOld(t, a, b0)
	checkOpen(t, a)
	a2 := a.Send()
	if a2 != telling(2, 2, 3) {
		t.Fatalf("a sends %v", a2)
	}
	checkOpen(t, a, 2)
	checkOld(t, b, a0)
	checkOpen(t, b, 0, 1, 2)
	checkTake(t, b, a2, 0, 1, 2)
	checkOpen(t, b)
}
