package fragment

import (
	"bytes"
	"testing"

	"ricochet/api"
)

// pair is an assembler with its second telling: both are to answer the same.
type pair struct {
	a *Assembler
	s *shelf
}

func newPair() pair { return pair{&Assembler{}, &shelf{}} }

func (p pair) feed(t *testing.T, part []byte) (bool, api.Errno) {
	t.Helper()
	got, ok, e := p.a.Feed(part)
	want, wantOK, wantE := p.s.feed(part)
	if e != wantE || ok != wantOK || !bytes.Equal(got, want) {
		t.Fatalf("Feed(%s) = %s, %v, %v, not %s, %v, %v", brief(part), brief(got), ok, e, brief(want), wantOK, wantE)
	}
	checkWaits(t, p.a, p.s.waits())
	return ok, e
}

// orders are all orders of the numbers below n.
func orders(n int) [][]int {
	if n == 0 {
		return [][]int{nil}
	}
	var all [][]int
	for _, shorter := range orders(n - 1) {
		for at := range n {
			order := append([]int{}, shorter[:at]...)
			order = append(order, n-1)
			all = append(all, append(order, shorter[at:]...))
		}
	}
	return all
}

// checkOrder splits b and feeds its parts in that order.
func checkOrder(t *testing.T, id uint16, b []byte, order []int) {
	t.Helper()
	parts, e := Split(id, b)
	if e != api.OK || len(parts) != len(order) {
		t.Fatalf("of %d bytes %d parts, %v", len(b), len(parts), e)
	}
	a := &Assembler{}
	last := len(order) - 1
	for _, at := range order[:last] {
		checkPart(t, a, parts[at], 1)
	}
	checkWhole(t, a, parts[order[last]], b, 0)
}

func TestPartsInAnyOrderGiveTheMessage(t *testing.T) {
	if got := len(orders(5)); got != 120 {
		t.Fatalf("%d orders", got)
	}
	for _, n := range []int{1, 299, 300, 301, 599, 600, 601, 900, 901, 1200, 1201, 1500} {
		b := text(n, luck(n))
		for _, order := range orders((n + 299) / 300) {
			checkOrder(t, uint16(n), b, order)
		}
	}
}

func TestPartsOfLongMessagesGiveThem(t *testing.T) {
	l := luck(21)
	for _, n := range []int{1501, 2100, 2999, 3599, 3600, 3601, 3899, 3900, 3901, 3999, 4000} {
		b := text(n, luck(n))
		var order []int
		for place := range (n + 299) / 300 {
			order = append(order, place)
		}
		checkOrder(t, 0, b, order)
		for range 30 {
			order = shuffle(&l, order)
			checkOrder(t, 65535, b, order)
		}
	}
}

func TestEachLengthIsGiven(t *testing.T) {
	a := &Assembler{}
	for n := 1; n <= 4000; n += 1 + n%7 {
		b := text(n, luck(n))
		parts, _ := Split(uint16(n), b)
		for _, part := range parts[1:] {
			checkPart(t, a, part, 1)
		}
		checkWhole(t, a, parts[0], b, 0)
	}
}

// Four messages' parts, each once, all mixed: each one is given with its last part.
func TestFourMixedMessagesAreGiven(t *testing.T) {
	for seed := range luck(300) {
		l := seed*13 + 7
		a := &Assembler{}
		missing := map[uint16]int{}
		sent := map[uint16][]byte{}
		var all [][]byte
		for range 4 {
			id := uint16(l.below(65536))
			b := text(1+l.below(4000), l)
			parts, _ := Split(id, b)
			if _, twice := missing[id]; twice {
				continue
			}
			missing[id], sent[id] = len(parts), b
			all = append(all, parts...)
		}
		for _, part := range shuffle(&l, all) {
			x, _ := told(part)
			missing[x.id]--
			waits := 0
			for id, n := range missing {
				if n > 0 && n < (len(sent[id])+299)/300 {
					waits++
				}
			}
			if missing[x.id] == 0 {
				checkWhole(t, a, part, sent[x.id], waits)
			} else {
				checkPart(t, a, part, waits)
			}
		}
	}
}

// Whatever comes of three others, whole or not, doubled or not, the one is given.
func TestOneAmongThreeOthersIsGiven(t *testing.T) {
	for seed := range luck(300) {
		l := seed*17 + 3
		a := &Assembler{}
		count := 2 + l.below(13)
		parts := shuffle(&l, cut(500, whole(500, count)))
		others := []int{1 + l.below(14), 1 + l.below(14), 1 + l.below(14)}
		for i, part := range parts {
			for range l.below(12) {
				at := l.below(3)
				a.Feed(nth(uint16(501+at), others[at], l.below(others[at])))
			}
			if got, ok, e := a.Feed(part); e != api.OK || ok != (i == count-1) || ok && !bytes.Equal(got, whole(500, count)) {
				t.Fatalf("row %d: the part %d of %d: %s, %v, %v", seed, i, count, brief(got), ok, e)
			}
		}
	}
}

// Rows of parts of few messages, doubled, turned about, and spoiled. Messages of
// one part come only where there is room: that such a one, which waits at no time,
// lets one of four go too, stands in the chapter by its words alone.
func TestRowsAgainstAShelf(t *testing.T) {
	wholes, olds, forms := 0, 0, 0
	for seed := range luck(150) {
		p, l := newPair(), seed*29+11
		ids, counts := 1+l.below(6), 1+l.below(4)
		for range 300 {
			count := 1 + l.below(counts)
			if l.below(6) == 0 {
				count = 1 + l.below(14)
			}
			if count == 1 && p.s.waits() == 4 {
				continue
			}
			part := nth(uint16(l.below(ids)*257), count, l.below(count))
			if l.below(12) == 0 {
				part = spoil(&l, part)
			}
			if x, formed := told(part); formed && x.count == 1 && p.s.waits() == 4 {
				continue
			}
			ok, e := p.feed(t, part)
			switch {
			case ok:
				wholes++
			case e == api.ErrOld:
				olds++
			case e == api.ErrForm:
				forms++
			}
		}
	}
	if wholes < 3000 || olds < 3000 || forms < 500 {
		t.Errorf("%d whole, %d old, %d no part's", wholes, olds, forms)
	}
}

// spoil is a part cut off, drawn out, or with another third byte.
func spoil(l *luck, part []byte) []byte {
	switch l.below(3) {
	case 0:
		return part[:l.below(len(part))]
	case 1:
		return append(part, text(1+l.below(300), *l)...)
	}
	part[2] = byte(l.below(256))
	return part
}
