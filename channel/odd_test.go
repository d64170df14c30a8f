package channel

import (
	"slices"
	"testing"

	"ricochet/api"
	"ricochet/serial"
)

func TestNoChannel(t *testing.T) {
	var c *Channel
	for range 3 {
		checkSend(t, c, Header{})
		checkOpen(t, c)
		checkWindow(t, c, serial.Window{})
		for _, h := range append(headers(), unformed()...) {
			if got, e := c.Take(h); e != api.ErrNone || len(got) != 0 {
				t.Fatalf("Take(%v) = %v, %v", h, got, e)
			}
		}
	}
}

// What is answered may be written over, its spare room too, and nothing comes of
// it; nor does what was answered change later.
func TestOpenIsNewMemory(t *testing.T) {
	c := sent(50)
	held := c.Open()
	spoilList(c.Open())
	checkOpen(t, c, span(0, 49)...)
	for range 30 {
		c.Send()
	}
	checkTake(t, c, telling(0, 40, 0xffffffff), span(16, 40)...)
	checkOpen(t, c, span(41, 79)...)
	if !slices.Equal(held, span(0, 49)) {
		t.Errorf("what was open is %v now", held)
	}
	first, second := c.Open(), c.Open()
	spoilList(first)
	if !slices.Equal(second, span(41, 79)) {
		t.Errorf("what is open is answered twice in one memory: %v", second)
	}
	spoilList(second)
	c.Send()
	checkOpen(t, c, span(41, 80)...)
}

func TestTakeAnswersNewMemory(t *testing.T) {
	c := sent(64)
	first, _ := c.Take(telling(0, 20, 0x55555555))
	want := []uint16{1, 3, 5, 7, 9, 11, 13, 15, 17, 19, 20}
	held := slices.Clone(first)
	second, _ := c.Take(telling(1, 20, 0xaaaaaaaa))
	if !slices.Equal(first, want) || !slices.Equal(first, held) {
		t.Errorf("what was acked is %v now", first)
	}
	spoilList(first)
	if !slices.Equal(second, []uint16{0, 2, 4, 6, 8, 10, 12, 14, 16, 18}) {
		t.Errorf("what is acked hangs on what was: %v", second)
	}
	spoilList(second)
	checkOpen(t, c, span(21, 63)...)
	c.Send()
	checkOpen(t, c, span(21, 64)...)
	all, _ := c.Take(telling(2, 53, 0xffffffff))
	for range 40 {
		c.Send()
	}
	if !slices.Equal(all, span(21, 53)) {
		t.Errorf("what was acked is %v now", all)
	}
	spoilList(all)
	checkOpen(t, c, span(54, 104)...)
}

// All of them are acked at once, or none is: such lists too are nobody else's.
func TestTakeOfAllAndOfNoneAnswersNewMemory(t *testing.T) {
	c := sent(33)
	all, _ := c.Take(telling(0, 32, 0xffffffff))
	spoilList(all)
	checkOpen(t, c)
	for range 33 {
		c.Send()
	}
	checkOpen(t, c, span(33, 65)...)
	none, _ := c.Take(bare(1))
	spoilList(none)
	old, _ := c.Take(bare(1))
	spoilList(old)
	checkOpen(t, c, span(33, 65)...)
}

// spoilList writes over a list, its spare room too.
func spoilList(l []uint16) {
	l = l[:cap(l)]
	for i := range l {
		l[i] = 7777
	}
}

func TestTwoChannelsDoNotHangOnOneAnother(t *testing.T) {
	a, b := &Channel{}, &Channel{}
	for range 70 {
		a.Send()
		b.Send()
		b.Send()
	}
	checkTake(t, a, telling(5, 30, 0xffffffff), span(6, 30)...)
	checkOpen(t, a, span(31, 69)...)
	checkOpen(t, b, span(76, 139)...)
	checkWindow(t, b, serial.Window{})
	checkTake(t, b, telling(5, 90, 1), 89, 90)
	checkOpen(t, a, span(31, 69)...)
	checkSend(t, a, telling(70, 5, 0))
	checkSend(t, b, telling(140, 5, 0))
}

// What is told of a channel changes nothing of it, however often it is asked.
func TestAskingChangesNothing(t *testing.T) {
	c := sent(5)
	checkTake(t, c, telling(3, 2, 1), 1, 2)
	for range 100 {
		checkOpen(t, c, 0, 3, 4)
		checkWindow(t, c, serial.Window{Any: true, Last: 3})
	}
	checkSend(t, c, telling(5, 3, 0))
}
