package channel

import (
	"testing"

	"ricochet/serial"
)

func TestAZeroChannelHasSentNothing(t *testing.T) {
	var c Channel
	checkOpen(t, &c)
	checkWindow(t, &c, serial.Window{})
	checkOpen(t, &Channel{})
	checkWindow(t, new(Channel), serial.Window{})
	checkSend(t, &c, Header{})
	checkSend(t, &Channel{}, Header{})
}

func TestSendNumbersFrom0On(t *testing.T) {
	c := &Channel{}
	checkSend(t, c, bare(0))
	checkOpen(t, c, 0)
	checkSend(t, c, bare(1))
	checkOpen(t, c, 0, 1)
	checkSend(t, c, bare(2))
	checkOpen(t, c, 0, 1, 2)
	checkWindow(t, c, serial.Window{})
}

func TestSendTellsWhatCame(t *testing.T) {
	c := &Channel{}
	checkTake(t, c, bare(7))
	checkSend(t, c, telling(0, 7, 0))
	checkTake(t, c, bare(8))
	checkSend(t, c, telling(1, 8, 1))
	checkTake(t, c, bare(11))
	checkSend(t, c, telling(2, 11, 12))
	checkTake(t, c, bare(9))
	checkSend(t, c, telling(3, 11, 14))
	checkTake(t, c, bare(6))
	checkSend(t, c, telling(4, 11, 30))
	checkSend(t, c, telling(5, 11, 30))
	checkOpen(t, c, 0, 1, 2, 3, 4, 5)
}

func TestSendTellsTheLatestAlone(t *testing.T) {
	for _, n := range []uint16{0, 1, 9, 32767, 32768, 65535} {
		c := sent(3)
		checkTake(t, c, bare(n))
		checkWindow(t, c, serial.Window{Any: true, Last: n})
		checkSend(t, c, telling(3, n, 0))
	}
}

func TestSendTellsAll32AheadOfTheLatest(t *testing.T) {
	for _, last := range []uint16{0, 5, 31, 32, 100, 32768, 65535} {
		c := &Channel{}
		for i := 32; i >= 0; i-- {
			checkTake(t, c, bare(on(last, -i)))
		}
		checkWindow(t, c, serial.Window{Any: true, Last: last, Mask: 0xffffffff})
		checkSend(t, c, telling(0, last, 0xffffffff))
		// One more, and the first of them is known no more.
		checkTake(t, c, bare(on(last, 2)))
		checkSend(t, c, telling(1, on(last, 2), 0xfffffffe))
	}
}

// What a datagram acks is told by its window alone, not by what came.
func TestSendIsNotAckedByWhatComesWithoutAWindow(t *testing.T) {
	c := sent(3)
	for _, n := range []uint16{0, 1, 2, 3} {
		checkTake(t, c, bare(n))
	}
	checkOpen(t, c, 0, 1, 2)
}

func TestOpenHasAtMost64(t *testing.T) {
	cases := []struct {
		sent        int
		first, last uint16
	}{
		{1, 0, 0},
		{62, 0, 61},
		{63, 0, 62},
		{64, 0, 63},
		{65, 1, 64},
		{66, 2, 65},
		{67, 3, 66},
		{127, 63, 126},
		{128, 64, 127},
		{129, 65, 128},
		{1000, 936, 999},
	}
	for _, x := range cases {
		checkOpen(t, sent(x.sent), span(x.first, x.last)...)
	}
}

// There are 64 that aren't acked, whichever they are: those that were acked in
// between make room.
func TestWhatIsAckedMakesRoom(t *testing.T) {
	c := sent(64)
	checkTake(t, c, telling(0, 10, 3), 8, 9, 10)
	checkOpen(t, c, append(span(0, 7), span(11, 63)...)...)
	for range 3 {
		c.Send()
	}
	checkOpen(t, c, append(span(0, 7), span(11, 66)...)...)
	c.Send()
	checkOpen(t, c, append(span(1, 7), span(11, 67)...)...)
	for range 7 {
		c.Send()
	}
	checkOpen(t, c, span(11, 74)...)
	c.Send()
	checkOpen(t, c, span(12, 75)...)
}

// One that isn't acked stays for as long as there are few of them, however many
// were sent since.
func TestWhatIsNotAckedStays(t *testing.T) {
	c := sent(2)
	for n := range uint16(1000) {
		c.Send()
		checkTake(t, c, telling(n, n+2, 0), n+2)
		checkOpen(t, c, 0, 1)
	}
	for range 62 {
		c.Send()
	}
	checkOpen(t, c, append([]uint16{0, 1}, span(1002, 1063)...)...)
	c.Send()
	checkOpen(t, c, append([]uint16{1}, span(1002, 1064)...)...)
	c.Send()
	checkOpen(t, c, span(1002, 1065)...)
}

func TestNumbersGoRound(t *testing.T) {
	c := sent(65535)
	checkOpen(t, c, span(65471, 65534)...)
	checkSend(t, c, bare(65535))
	checkOpen(t, c, span(65472, 65535)...)
	checkSend(t, c, bare(0))
	checkOpen(t, c, span(65473, 0)...)
	checkSend(t, c, bare(1))
	checkOpen(t, c, span(65474, 1)...)
	for n := range uint16(61) {
		checkSend(t, c, bare(n+2))
	}
	checkOpen(t, c, span(65535, 62)...)
	checkSend(t, c, bare(63))
	checkOpen(t, c, span(0, 63)...)
	checkSend(t, c, bare(64))
	checkOpen(t, c, span(1, 64)...)
}

// Each header of twice around, one after the other.
func TestEachNumberIsOneMoreThanTheLast(t *testing.T) {
	c := &Channel{}
	for range 2 {
		for n := range 65536 {
			checkSend(t, c, bare(uint16(n)))
		}
	}
	checkSend(t, c, bare(0))
}
