package stream

import (
	"math"
	"strings"
	"testing"

	"ricochet/api"
)

func TestAZeroSenderHasNoLines(t *testing.T) {
	var a Sender
	for _, s := range []*Sender{{}, new(Sender), &a} {
		m := &mouth{}
		checkSender(t, s, m)
		for _, wants := range []uint32{0, 1, 2, 3, 33, 1 << 31, math.MaxUint32} {
			if got := s.Confirm(wants); got != 0 {
				t.Fatalf("Confirm(%d) = %d", wants, got)
			}
			checkSender(t, s, m)
		}
		checkQueue(t, s, m, "a")
	}
}

func TestQueueTakesLinesOnly(t *testing.T) {
	cases := []struct {
		name string
		line string
		want api.Errno
	}{
		{"none", "", api.ErrArg},
		{"a byte", "a", api.OK},
		{"a byte 0", "\x00", api.OK},
		{"a byte 255", "\xff", api.OK},
		{"a blank", " ", api.OK},
		{"an end of line", "\n", api.OK},
		{"two bytes", "ab", api.OK},
		{"59 bytes", strings.Repeat("x", 59), api.OK},
		{"60 bytes", strings.Repeat("x", 60), api.OK},
		{"61 bytes", strings.Repeat("x", 61), api.ErrArg},
		{"62 bytes", strings.Repeat("x", 62), api.ErrArg},
		{"63 bytes", strings.Repeat("x", 63), api.ErrArg},
		{"64 bytes", strings.Repeat("x", 64), api.ErrArg},
		{"65 bytes", strings.Repeat("x", 65), api.ErrArg},
		{"128 bytes", strings.Repeat("x", 128), api.ErrArg},
		{"256 bytes", strings.Repeat("x", 256), api.ErrArg},
		{"257 bytes", strings.Repeat("x", 257), api.ErrArg},
		{"65537 bytes", strings.Repeat("x", 65537), api.ErrArg},
		{"60 bytes 0", strings.Repeat("\x00", 60), api.OK},
		{"61 bytes 0", strings.Repeat("\x00", 61), api.ErrArg},
		{"60 bytes that are no UTF-8", strings.Repeat("\xff\x80", 30), api.OK},
		{"61 bytes that are no UTF-8", strings.Repeat("\xff\x80", 30) + "\xc3", api.ErrArg},
		{"20 runes of three bytes", strings.Repeat("█", 20), api.OK},
		{"20 runes of three bytes, and one more", strings.Repeat("█", 20) + ".", api.ErrArg},
		{"21 runes of three bytes", strings.Repeat("█", 21), api.ErrArg},
		{"60 runes of two bytes", strings.Repeat("é", 60), api.ErrArg},
		{"half a rune", "\xe2\x96", api.OK},
	}
	for _, x := range cases {
		t.Run(x.name, func(t *testing.T) {
			for _, before := range []int{0, 1, 6, 7, 31} {
				s, m := queued(t, 3, before)
				if got := m.queue(x.line); got != x.want {
					t.Fatalf("the second telling says %v", got)
				}
				if got := s.Queue(x.line); got != x.want {
					t.Fatalf("Queue = %v, not %v", got, x.want)
				}
				checkSender(t, s, m)
			}
		})
	}
}

func TestQueueIsFull(t *testing.T) {
	for _, gone := range []int{0, 1, 7, 32, 40} {
		s, m := queued(t, gone, 31)
		checkQueue(t, s, m, "the 32nd")
		if got := s.Waits(); got != 32 {
			t.Fatalf("32 are %d", got)
		}
		for range 3 {
			if got := s.Queue("the 33rd"); got != api.ErrFull {
				t.Fatalf("Queue of the 33rd = %v", got)
			}
			checkSender(t, s, m)
		}
		checkConfirm(t, s, m, uint32(gone+2))
		checkQueue(t, s, m, "behind a Confirm")
		if got := s.Queue("and one more"); got != api.ErrFull {
			t.Fatalf("Queue of one more = %v", got)
		}
		checkSender(t, s, m)
		// Who confirms nothing makes no room.
		for _, wants := range []uint32{0, 1, uint32(gone + 2), uint32(gone + 35), math.MaxUint32} {
			checkConfirm(t, s, m, wants)
			if got := s.Queue("and one more"); got != api.ErrFull {
				t.Fatalf("Queue behind Confirm(%d) = %v", wants, got)
			}
		}
		checkConfirm(t, s, m, uint32(gone+34))
		if got := s.Waits(); got != 0 {
			t.Fatalf("all are confirmed: %d", got)
		}
		for range 32 {
			checkQueue(t, s, m, "anew")
		}
		if got := s.Queue("anew"); got != api.ErrFull {
			t.Fatalf("Queue of 33 anew = %v", got)
		}
	}
}

// What is no line is that ahead of all, and there is no room for it either.
func TestQueueOfNoLineWhereItIsFull(t *testing.T) {
	s, m := queued(t, 5, 32)
	for _, n := range []int{0, 61, 62, 63, 64, 1000} {
		if got := s.Queue(line(n, 1)); got != api.ErrArg {
			t.Fatalf("Queue of %d bytes = %v", n, got)
		}
		checkSender(t, s, m)
	}
	for _, n := range []int{1, 2, 59, 60} {
		if got := s.Queue(line(n, 1)); got != api.ErrFull {
			t.Fatalf("Queue of %d bytes = %v", n, got)
		}
		checkSender(t, s, m)
	}
}

// As many places as are confirmed become free.
func TestConfirmMakesRoom(t *testing.T) {
	for n := range 33 {
		s, m := queued(t, 9, 32)
		checkConfirm(t, s, m, uint32(10+n))
		for range n {
			checkQueue(t, s, m, "x")
		}
		checkQueue(t, s, m, "too many")
		if got := s.Waits(); got != 32 {
			t.Fatalf("behind %d: %d", n, got)
		}
	}
}

func TestConfirmWrittenOut(t *testing.T) {
	s := &Sender{}
	for _, x := range []string{"a", "b", "c", "d", "e"} {
		if e := s.Queue(x); e != api.OK {
			t.Fatal(e)
		}
	}
	steps := []struct {
		wants uint32
		gone  int
		waits int
	}{
		{0, 0, 5}, {1, 0, 5}, {7, 0, 5}, {8, 0, 5}, {math.MaxUint32, 0, 5},
		{2, 1, 4}, {2, 0, 4}, {1, 0, 4}, {0, 0, 4}, {7, 0, 4},
		{4, 2, 2}, {3, 0, 2}, {4, 0, 2},
		{6, 2, 0}, {6, 0, 0}, {7, 0, 0}, {5, 0, 0}, {1, 0, 0}, {0, 0, 0},
	}
	for i, x := range steps {
		if got := s.Confirm(x.wants); got != x.gone || s.Waits() != x.waits {
			t.Fatalf("step %d: Confirm(%d) = %d, %d wait", i, x.wants, got, s.Waits())
		}
	}
	if e := s.Queue("f"); e != api.OK || s.Confirm(8) != 0 || s.Waits() != 1 || s.Confirm(7) != 1 || s.Waits() != 0 {
		t.Errorf("the sixth one: %v, %d wait", e, s.Waits())
	}
}

// Each number that may be told, behind each number of lines that are gone.
func TestConfirmOfEachNumber(t *testing.T) {
	for _, gone := range []int{0, 1, 2, 7, 8, 33} {
		for _, kept := range []int{0, 1, 2, 6, 7, 8, 31, 32} {
			for wants := range gone + kept + 5 {
				s, m := queued(t, gone, kept)
				checkConfirm(t, s, m, uint32(wants))
				// Told once more, and older ones, and one that comes too soon.
				checkConfirm(t, s, m, uint32(wants))
				checkConfirm(t, s, m, uint32(max(0, wants-1)))
				checkConfirm(t, s, m, uint32(gone+kept+2))
				checkQueue(t, s, m, "and on")
			}
		}
	}
}

func TestConfirmOfGreatNumbers(t *testing.T) {
	for _, gone := range []int{0, 1, 40} {
		for _, kept := range []int{0, 1, 7, 32} {
			s, m := queued(t, gone, kept)
			next := uint32(gone + kept + 1)
			great := []uint32{next + 1, next + 2, next + 31, next + 32, next + 33, 255, 256, 257, 65535, 65536, 65537, 1<<31 - 1, 1 << 31, 1<<31 + 1, math.MaxUint32 - 32, math.MaxUint32 - 1, math.MaxUint32}
			for at := uint32(gone); at < next; at++ {
				great = append(great, at+1<<8, at+1<<16, at+1<<31)
			}
			for _, wants := range great {
				if wants <= next {
					continue
				}
				if got := s.Confirm(wants); got != 0 {
					t.Fatalf("Confirm(%d) = %d, behind %d of %d", wants, got, gone, gone+kept)
				}
				checkSender(t, s, m)
			}
		}
	}
}

// The number that is told counts from the first line ever on.
func TestManyLinesAreConfirmed(t *testing.T) {
	s, m := &Sender{}, &mouth{}
	l := luck(5)
	for round := range 700 {
		for range l.below(34) {
			x := line(1+l.below(60), luck(round))
			if got, want := s.Queue(x), m.queue(x); got != want {
				t.Fatalf("round %d: Queue = %v, not %v", round, got, want)
			}
		}
		checkSender(t, s, m)
		for range 3 {
			checkConfirm(t, s, m, uint32(max(0, m.gone-3+l.below(40))))
		}
	}
	if m.gone < 4000 {
		t.Errorf("%d were confirmed", m.gone)
	}
}
