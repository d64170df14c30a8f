package channel

import (
	"slices"
	"testing"

	"ricochet/api"
)

// pair is a channel with its second telling: both are to answer the same.
type pair struct {
	c *Channel
	j *journal
}

func newPair() pair { return pair{&Channel{}, newJournal()} }

func (p pair) send(t *testing.T) Header {
	t.Helper()
	got, want := p.c.Send(), p.j.send()
	if got != want {
		t.Fatalf("Send = %v, not %v", got, want)
	}
	p.checkState(t)
	return got
}

func (p pair) take(t *testing.T, h Header) ([]uint16, api.Errno) {
	t.Helper()
	got, e := p.c.Take(h)
	want, f := p.j.take(h)
	if e != f || !slices.Equal(got, want) {
		t.Fatalf("Take(%v) = %v, %v, not %v, %v", h, got, e, want, f)
	}
	p.checkState(t)
	return got, e
}

func (p pair) checkState(t *testing.T) {
	t.Helper()
	checkOpen(t, p.c, p.j.numbers()...)
	checkWindow(t, p.c, p.j.window())
}

// header is one as nobody need have sent it: mostly near what was sent and what
// came, sometimes anywhere.
func (p pair) header(l *luck) Header {
	edges := []int{-32768, -34, -33, -32, -31, -1, 0, 1, 32, 33, 32767}
	h := Header{Number: on(p.c.Window().Last, l.below(6)-3), Any: l.below(8) > 0, Mask: l.mask()}
	switch l.below(8) {
	case 0:
		h.Number = on(p.c.Window().Last, edges[l.below(len(edges))])
	case 1:
		h.Number = on(p.c.Window().Last, l.below(80)-40)
	case 2:
		h.Number = uint16(l.below(65536))
	}
	h.Ack = on(uint16(p.j.sent%65536), l.below(100)-90)
	if l.below(10) == 0 {
		h.Ack = uint16(l.below(65536))
	}
	return h
}

// Rows of Sends and Takes that look like chance, from 0 on and around the end.
func TestRowsAgainstAJournal(t *testing.T) {
	for seed := range luck(150) {
		p, l := newPair(), luck(seed*77+1)
		if seed%15 == 0 {
			for range 65300 + l.below(236) {
				p.c.Send()
				p.j.send()
			}
		}
		often := 2 + l.below(9)
		acks, olds := 0, 0
		for range 500 {
			if l.below(10) < often {
				p.send(t)
				continue
			}
			acked, e := p.take(t, p.header(&l))
			acks += len(acked)
			if e == api.ErrOld {
				olds++
			}
		}
		if often < 8 && (acks == 0 || olds == 0) {
			t.Errorf("row %d: %d are acked, %d are old", seed, acks, olds)
		}
	}
}

// flight is a datagram on its way, or one that was.
type flight struct {
	place int
	h     Header
}

// side is one of two that send to each other: its channel, where among all that
// it sent the last one with each number stands, and, of each, how often it was
// acked and how often the other side took it.
type side struct {
	pair
	latest       map[uint16]int
	acked, taken map[int]int
	toOther      []flight
	count        int
}

func newSide() *side {
	return &side{pair: newPair(), latest: map[uint16]int{}, acked: map[int]int{}, taken: map[int]int{}}
}

func (s *side) launch(t *testing.T, times int) {
	t.Helper()
	h := s.send(t)
	s.latest[h.Number] = s.count
	for range times {
		s.toOther = append(s.toOther, flight{s.count, h})
	}
	s.count++
}

// land lets one of those on their way from s come to the other side.
func (s *side) land(t *testing.T, other *side, at int) {
	t.Helper()
	f := s.toOther[at]
	s.toOther = slices.Delete(s.toOther, at, at+1)
	acked, e := other.take(t, f.h)
	if e != api.OK {
		return
	}
	s.taken[f.place]++
	if s.taken[f.place] > 1 {
		t.Fatalf("datagram %d is taken %d times", f.place, s.taken[f.place])
	}
	for _, n := range acked {
		other.note(t, n)
	}
}

// note counts that the number n was acked. It must have come.
func (s *side) note(t *testing.T, n uint16) {
	t.Helper()
	place, ok := s.latest[n]
	if !ok || s.taken[place] != 1 {
		t.Fatalf("%d is acked, and hasn't come", n)
	}
	s.acked[place]++
	if s.acked[place] > 1 {
		t.Fatalf("datagram %d is acked %d times", place, s.acked[place])
	}
}

// Two sides, and between them datagrams that are lost, doubled, turned about and
// late: each is taken at most once, and acked at most once, if it came.
func TestWhatComesIsTakenOnceAndAckedOnce(t *testing.T) {
	for seed := range luck(40) {
		l := luck(seed*31 + 5)
		sides := []*side{newSide(), newSide()}
		late := []int{1, 3, 20, 60}[seed%4]
		for range 1500 {
			at := l.below(2)
			s, other := sides[at], sides[1-at]
			if l.below(2) == 0 {
				s.launch(t, []int{0, 1, 1, 1, 2, 3}[l.below(6)])
			}
			if len(s.toOther) >= late {
				s.land(t, other, l.below(min(late, len(s.toOther))))
			}
		}
		for _, s := range sides {
			if len(s.taken) < 150 || len(s.acked) < 140 {
				t.Errorf("row %d: of %d that were sent %d are taken, %d acked", seed, s.count, len(s.taken), len(s.acked))
			}
		}
	}
}

// The same for more than once around. So many are lost that none stays open till
// its number is sent again.
func TestWhatComesIsTakenOnceAroundTheEnd(t *testing.T) {
	l := luck(9)
	sides := []*side{newSide(), newSide()}
	for i := range 140000 {
		s, other := sides[i%2], sides[1-i%2]
		s.launch(t, []int{0, 1, 1, 2}[l.below(4)])
		for len(s.toOther) > 2 {
			s.land(t, other, l.below(3))
		}
	}
	for _, s := range sides {
		if s.count != 70000 || len(s.taken) < 50000 || len(s.acked) < 50000 {
			t.Errorf("of %d that were sent %d are taken, %d acked", s.count, len(s.taken), len(s.acked))
		}
	}
}

// In calm each is acked by the next one of the other side, and nothing else is.
func TestInCalmEachIsAckedAtOnce(t *testing.T) {
	a, b := newPair(), newPair()
	for i := range 66000 {
		n := uint16(i % 65536)
		acked, e := b.take(t, a.send(t))
		if want := behind(n, i); e != api.OK || !slices.Equal(acked, want) {
			t.Fatalf("b's Take %d = %v, %v, not %v", i, acked, e, want)
		}
		acked, e = a.take(t, b.send(t))
		if e != api.OK || !slices.Equal(acked, []uint16{n}) {
			t.Fatalf("a's Take %d = %v, %v, not %d", i, acked, e, n)
		}
		checkOpen(t, a.c)
		checkOpen(t, b.c, n)
	}
}

// behind is the number one ahead of n, if i of them were sent by then.
func behind(n uint16, i int) []uint16 {
	if i == 0 {
		return nil
	}
	return []uint16{on(n, -1)}
}
