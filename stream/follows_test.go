package stream

import (
	"slices"
	"testing"

	"ricochet/api"
	"ricochet/bits"
)

// way is a sender, a receiver, and what is on the way between them: the bundles
// and the numbers that ever were, and the highest one that the sender was told.
type way struct {
	s       *Sender
	r       *Receiver
	queued  []string
	given   []string
	bundles [][]byte
	wants   []uint32
	told    uint32
}

func newWay() *way {
	return &way{s: &Sender{}, r: &Receiver{}}
}

func (w *way) queue(t *testing.T, x string) bool {
	t.Helper()
	switch e := w.s.Queue(x); e {
	case api.OK:
		w.queued = append(w.queued, x)
		return true
	case api.ErrFull:
		if w.s.Waits() != api.MaxLines {
			t.Fatalf("full with %d", w.s.Waits())
		}
	default:
		t.Fatalf("Queue of %d bytes = %v", len(x), e)
	}
	return false
}

func (w *way) send() {
	var b bits.Writer
	w.s.Put(&b)
	w.bundles = append(w.bundles, b.Bytes())
}

// hear lets the receiver take one of the bundles that ever were.
func (w *way) hear(t *testing.T, at int) {
	t.Helper()
	before := w.r.Wants()
	lines, ok := w.r.Take(bits.New(w.bundles[at]))
	if !ok {
		t.Fatalf("the bundle %d is none", at)
	}
	w.given = append(w.given, lines...)
	if len(w.given) > len(w.queued) || !slices.Equal(w.given, w.queued[:len(w.given)]) {
		t.Fatalf("behind the bundle %d: given were %q, queued %q", at, w.given, w.queued)
	}
	if got := w.r.Wants(); got != before+uint32(len(lines)) || got != uint32(len(w.given)+1) {
		t.Fatalf("behind %d lines %d is wanted", len(w.given), got)
	}
}

func (w *way) tell() {
	w.wants = append(w.wants, w.r.Wants())
}

// confirm tells the sender one of the numbers that ever were wanted.
func (w *way) confirm(t *testing.T, at int) {
	t.Helper()
	w.told = max(w.told, w.wants[at])
	before := w.s.Waits()
	n := w.s.Confirm(w.wants[at])
	if got := w.s.Waits(); n < 0 || got != before-n || len(w.queued)-got != int(w.told)-1 {
		t.Fatalf("Confirm(%d) = %d, behind %d that waited %d of %d wait", w.wants[at], n, before, got, len(w.queued))
	}
}

// calm brings all to an end, and all lines were given then.
func (w *way) calm(t *testing.T) {
	t.Helper()
	for range len(w.queued) + 1 {
		w.send()
		w.hear(t, len(w.bundles)-1)
		w.tell()
		w.confirm(t, len(w.wants)-1)
	}
	if w.s.Waits() != 0 || !slices.Equal(w.given, w.queued) {
		t.Fatalf("%d of %d lines were given, %d wait", len(w.given), len(w.queued), w.s.Waits())
	}
}

func TestLinesAreGivenAsTheyWereQueued(t *testing.T) {
	w := newWay()
	for i := range 500 {
		if !w.queue(t, line(1+i%60, luck(i))) {
			t.Fatalf("the line %d isn't queued", i)
		}
		if i%5 == 4 || w.s.Waits() > 25 {
			w.send()
			w.hear(t, len(w.bundles)-1)
			w.tell()
			w.confirm(t, len(w.wants)-1)
		}
	}
	w.calm(t)
}

func TestThirtyTwoLinesComeSevenBySeven(t *testing.T) {
	w := newWay()
	for i := range 32 {
		w.queue(t, line(60, luck(i)))
	}
	for _, given := range []int{7, 14, 21, 28, 32, 32} {
		w.send()
		w.hear(t, len(w.bundles)-1)
		if len(w.given) != given {
			t.Fatalf("%d were given, not %d", len(w.given), given)
		}
		w.tell()
		w.confirm(t, len(w.wants)-1)
		if got := w.s.Waits(); got != 32-given {
			t.Fatalf("%d wait behind %d", got, given)
		}
	}
}

// Where nothing is confirmed a bundle is the same, and gives its lines once.
func TestNothingIsConfirmed(t *testing.T) {
	w := newWay()
	for i := range 10 {
		w.queue(t, line(3, luck(i)))
		for range 3 {
			w.send()
			w.hear(t, len(w.bundles)-1)
			if got := len(w.given); got != min(i+1, 7) {
				t.Fatalf("of %d lines %d were given", i+1, got)
			}
		}
	}
	w.tell()
	w.confirm(t, 0)
	if got := w.s.Waits(); got != 3 {
		t.Fatalf("%d wait", got)
	}
	w.calm(t)
}

// order is one of the orders of the numbers below n, another one for each code
// below the product of the numbers up to n.
func order(code, n int) []int {
	var left, picked []int
	for i := range n {
		left = append(left, i)
	}
	for ; len(left) > 0; code /= len(left) + 1 {
		at := code % len(left)
		picked = append(picked, left[at])
		left = slices.Delete(left, at, at+1)
	}
	return picked
}

// snapped is a way with six bundles on it, of which none came; the sender was told
// of some by a receiver that is gone.
func snapped(t *testing.T) *way {
	t.Helper()
	w := newWay()
	told := &Receiver{}
	for i := range 6 {
		for j := range 3 {
			w.queue(t, line(1+i+j, luck(i*3+j)))
		}
		w.send()
		if i%2 == 1 {
			told.Take(bits.New(w.bundles[i]))
			w.s.Confirm(told.Wants())
		}
	}
	return w
}

// Six bundles in each order, each once, and then in that order again.
func TestBundlesInEachOrder(t *testing.T) {
	made := snapped(t)
	seen := map[[6]int]int{}
	for code := range 720 {
		order := order(code, 6)
		seen[[6]int(order)]++
		w := &way{s: made.s, r: &Receiver{}, queued: made.queued, bundles: made.bundles}
		e := &ear{}
		for _, at := range append(order, order...) {
			w.hear(t, at)
			e.hear(unpack(w.bundles[at]))
			if len(w.given) != int(e.had) {
				t.Fatalf("in the order %v %d were given, not %d", order, len(w.given), e.had)
			}
		}
		// Then each that is wanted has come once more behind those ahead of it.
		for range 6 {
			for _, at := range order {
				w.hear(t, at)
			}
		}
		if len(w.given) < 15 {
			t.Fatalf("in the order %v %d were given", order, len(w.given))
		}
	}
	if len(seen) != 720 {
		t.Errorf("%d orders", len(seen))
	}
}

// Each choice of which bundles are lost.
func TestBundlesThatAreLost(t *testing.T) {
	for lost := range 64 {
		w := newWay()
		for i := range 6 {
			w.queue(t, line(5, luck(i)))
			w.queue(t, line(6, luck(i)))
			w.send()
			if lost>>i&1 == 1 {
				continue
			}
			w.hear(t, i)
			if got, want := len(w.given), 2*i+2; got != want && want <= 7 {
				t.Fatalf("lost %d: behind the bundle %d %d were given", lost, i, got)
			}
			w.tell()
			w.confirm(t, len(w.wants)-1)
		}
		w.calm(t)
	}
}

// Rows in which lines, bundles and what is told come in many orders: lost, doubled
// and turned about.
func TestRowsOfLostDoubledAndTurned(t *testing.T) {
	lines, turned := 0, 0
	for seed := range luck(200) {
		l := seed*37 + 5
		w := newWay()
		for range 400 {
			switch x := l.below(10); {
			case x < 3:
				w.queue(t, line(1+l.below(60), l))
			case x < 5:
				w.send()
			case x < 8 && len(w.bundles) > 0:
				at := max(0, len(w.bundles)-1-l.below(1+l.below(12)))
				if at != len(w.bundles)-1 {
					turned++
				}
				w.hear(t, at)
			case x == 8:
				w.tell()
			case x == 9 && len(w.wants) > 0:
				w.confirm(t, max(0, len(w.wants)-1-l.below(5)))
			}
		}
		w.calm(t)
		lines += len(w.given)
	}
	if lines < 10000 || turned < 5000 {
		t.Errorf("%d lines, %d turned", lines, turned)
	}
}

// Spoiled bundles, that are none, come between, and change nothing.
func TestRowsWithSpoiledBundles(t *testing.T) {
	spoiled := 0
	for seed := range luck(100) {
		l := seed*41 + 9
		w := newWay()
		for range 100 {
			w.queue(t, line(1+l.below(60), l))
			w.send()
			bad := w.bundles[len(w.bundles)-1]
			bad = bad[:l.below(len(bad))]
			// What is cut off at a byte may end behind the bundle's last bit.
			if _, ok, _ := (&ear{had: uint64(len(w.given))}).hear(unpack(bad)); !ok {
				checkNone(t, w.r, unpack(bad))
				spoiled++
			}
			if l.below(2) == 0 {
				w.hear(t, len(w.bundles)-1)
				w.tell()
				w.confirm(t, len(w.wants)-1)
			}
		}
		w.calm(t)
	}
	if spoiled < 5000 {
		t.Errorf("%d were spoiled", spoiled)
	}
}
