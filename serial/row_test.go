package serial

import "testing"

// ledger is a window told otherwise: all numbers that came, counted on without
// end in place of going round, and the latest of them.
type ledger struct {
	came   map[int]bool
	latest int
}

// ledgerOf is what w tells, with its latest number at a count far from 0.
func ledgerOf(w Window) ledger {
	l := ledger{came: map[int]bool{}}
	if !w.Any {
		return l
	}
	l.latest = 1<<20 + int(w.Last)
	l.came[l.latest] = true
	for i := range 32 {
		if w.Mask>>i%2 == 1 {
			l.came[l.latest-1-i] = true
		}
	}
	return l
}

// count is which of all counts the number n stands for: the one that lies from
// 32768 ahead of the latest one to 32767 behind it.
func (l ledger) count(n uint16) int {
	count := (l.latest-32768)/65536*65536 + int(n)
	if count < l.latest-32768 {
		count += 65536
	}
	return count
}

func (l ledger) has(n uint16) bool {
	count := l.count(n)
	return len(l.came) > 0 && l.came[count] && count >= l.latest-32
}

func (l *ledger) take(n uint16) bool {
	if len(l.came) == 0 {
		l.latest = 1<<20 + int(n)
		l.came[l.latest] = true
		return true
	}
	count := l.count(n)
	if l.came[count] || count < l.latest-32 {
		return false
	}
	l.came[count] = true
	l.latest = max(l.latest, count)
	return true
}

// window is what a window knows of l.
func (l ledger) window() Window {
	if len(l.came) == 0 {
		return Window{}
	}
	w := Window{Any: true, Last: uint16(l.latest % 65536)}
	place := uint32(1)
	for i := range 32 {
		if l.came[l.latest-1-i] {
			w.Mask += place
		}
		place *= 2
	}
	return w
}

// near are the numbers around n, the halfway ones, and those at both ends.
func near(n uint16) []uint16 {
	all := []uint16{0, 1, 32767, 32768, 65534, 65535}
	for i := -70; i <= 70; i++ {
		all = append(all, uint16(int(n)+i+65536))
	}
	for i := -3; i <= 3; i++ {
		all = append(all, uint16(int(n)+32768+i))
	}
	return all
}

func TestEachWindowTakesEachNumberAsALedger(t *testing.T) {
	for _, last := range starts() {
		for _, mask := range masks() {
			w := window(last, mask)
			for _, n := range near(last) {
				checkAgainstLedger(t, w, n)
			}
		}
	}
}

func TestAWindowTakesAllNumbersAsALedger(t *testing.T) {
	for _, w := range []Window{{}, window(0, 0), window(7, 0x80000001), window(32768, 0xffffffff), window(65535, 0x55555555)} {
		for n := range 65536 {
			checkAgainstLedger(t, w, uint16(n))
		}
	}
}

func checkAgainstLedger(t *testing.T, w Window, n uint16) {
	t.Helper()
	l := ledgerOf(w)
	if got, want := Has(w, n), l.has(n); got != want {
		t.Fatalf("Has(%v, %d) = %v, not %v", w, n, got, want)
	}
	isNew := l.take(n)
	after, got := Take(w, n)
	if got != isNew || after != l.window() {
		t.Fatalf("Take(%v, %d) = %v, %v, not %v, %v", w, n, after, got, l.window(), isNew)
	}
}

// rule is a fixed row of numbers that look like chance.
type rule uint64

func (r *rule) below(n int) int {
	*r = *r*6364136223846793005 + 1442695040888963407
	return int(uint64(*r) >> 33 % uint64(n))
}

// step is where the next number of a row lies, from the latest one on: mostly
// nearby, sometimes at the edges, sometimes anywhere.
func (r *rule) step() int {
	edges := []int{-32768, -32767, -34, -33, -32, -31, -1, 0, 1, 31, 32, 33, 34, 32767}
	switch r.below(8) {
	case 0:
		return edges[r.below(len(edges))]
	case 1:
		return r.below(65536) - 32768
	case 2, 3:
		return r.below(80) - 40
	}
	return r.below(8) - 5
}

func on(n uint16, steps int) uint16 { return uint16(int(n) + steps + 65536) }

func TestRowsAgainstALedger(t *testing.T) {
	for seed := range 200 {
		r := rule(seed)
		w, l := Window{}, ledgerOf(Window{})
		n := starts()[seed%len(starts())]
		for i := range 400 {
			isNew := l.take(n)
			after, got := Take(w, n)
			if got != isNew || after != l.window() {
				t.Fatalf("row %d, number %d of it: Take(%v, %d) = %v, %v, not %v, %v", seed, i, w, n, after, got, l.window(), isNew)
			}
			w = after
			n = on(w.Last, r.step())
		}
	}
}

// What is taken is had, just behind it and as long as it lies at most 32 ahead;
// what isn't new changes nothing; the latest number never goes back.
func TestWhatIsTakenIsHad(t *testing.T) {
	for seed := range 200 {
		r := rule(seed + 1000)
		w := Window{}
		var taken []uint16
		n := uint16(r.below(65536))
		for range 300 {
			after, isNew := Take(w, n)
			if isNew && Has(w, n) {
				t.Fatalf("Take(%v, %d) is new, and it came", w, n)
			}
			if isNew && !Has(after, n) {
				t.Fatalf("Take(%v, %d) = %v, which hasn't it", w, n, after)
			}
			if !isNew && after != w {
				t.Fatalf("Take(%v, %d) isn't new and makes %v", w, n, after)
			}
			if w.Any && after.Last != w.Last && !Later(w.Last, after.Last) {
				t.Fatalf("Take(%v, %d) goes back to %v", w, n, after)
			}
			if isNew {
				taken = append(taken, n)
			}
			taken = stillKnown(t, after, taken)
			w = after
			n = on(w.Last, r.step())
		}
	}
}

// stillKnown checks that w has each of those taken that lie in it, and answers them.
func stillKnown(t *testing.T, w Window, taken []uint16) []uint16 {
	t.Helper()
	var known []uint16
	for _, n := range taken {
		if ahead := Steps(n, w.Last); 0 <= ahead && ahead <= 32 {
			if !Has(w, n) {
				t.Fatalf("%v hasn't %d, which was taken", w, n)
			}
			known = append(known, n)
		}
	}
	return known
}

// mostOnward is how far the latest number may go on from the first one of all
// till one that lies 32 ahead of the first can be meant anew.
const mostOnward = 65535 - 32

func TestEachIsNewOnceWhateverTheOrder(t *testing.T) {
	for seed := range 300 {
		r := rule(seed + 5000)
		w := Window{}
		times := map[uint16]int{}
		width := []int{5, 40, 70, 400, 20000}[seed%5]
		base := starts()[seed%len(starts())]
		onward := 0
		for range 2000 {
			n := on(base, r.below(width))
			if w.Any && Later(w.Last, n) {
				onward += Steps(w.Last, n)
			}
			if onward > mostOnward {
				t.Fatalf("the row is made to stay short of going around: %d", onward)
			}
			var isNew bool
			if w, isNew = Take(w, n); isNew {
				times[n]++
			}
			if times[n] > 1 {
				t.Fatalf("row %d: %d was new %d times", seed, n, times[n])
			}
		}
	}
}

// All numbers in order, each three times and the 32 ahead of it once more.
func TestEachIsNewOnceInOrder(t *testing.T) {
	for _, first := range starts() {
		w := Window{}
		times := map[uint16]int{}
		for i := range mostOnward + 1 {
			n := on(first, i)
			for _, again := range []uint16{n, n, n, on(n, -1), on(n, -31), on(n, -32), on(n, -33)} {
				var isNew bool
				if w, isNew = Take(w, again); isNew {
					times[again]++
				}
			}
		}
		for n, k := range times {
			if k != 1 {
				t.Fatalf("from %d on, %d was new %d times", first, n, k)
			}
		}
		// The 32 ahead of the first are new too, for none of them came.
		if len(times) != 65536 {
			t.Fatalf("from %d on, %d numbers were new", first, len(times))
		}
	}
}

func TestANumberIsNewAgainBehindGoingAround(t *testing.T) {
	w, _ := Take(Window{}, 100)
	for _, n := range []uint16{30000, 60000} {
		w, _ = Take(w, n)
	}
	if _, isNew := Take(w, 60000); isNew {
		t.Error("60000 is new twice")
	}
	after, isNew := Take(w, 100)
	if !isNew || after != window(100, 0) {
		t.Errorf("100, once around: %v, %v", after, isNew)
	}
}
