package random

import "testing"

// back is the state of a number, got by undoing what made it: a fold is undone
// from the highest bits on, and a product by the factor's counterpart, with
// which it makes 1.
func back(number uint64) uint64 {
	x := unfolded(number, 31)
	x = unfolded(x*0x319642b2d24d8ec3, 27)
	x = unfolded(x*0x96de1b173f119089, 30)
	return x - 0x9e3779b97f4a7c15
}

func unfolded(x uint64, by int) uint64 {
	all := x
	for range 64 / by {
		all = x ^ all>>by
	}
	return all
}

// States can be told from what comes of them, so no two have the same next
// state, and none the same number.
func TestTheStateIsToldByEither(t *testing.T) {
	r := rule(83)
	all := states()
	for range 20000 {
		all = append(all, r.word())
	}
	for _, state := range all {
		next, number := Next(state)
		if got := next - 0x9e3779b97f4a7c15; got != state {
			t.Fatalf("the next state of %016x is that of %016x", state, got)
		}
		if got := back(number); got != state {
			t.Fatalf("the number of %016x is that of %016x", state, got)
		}
	}
}

// Each number is that of some state.
func TestEachNumberHasAState(t *testing.T) {
	for _, number := range states() {
		if _, got := Next(back(number)); got != number {
			t.Errorf("the number of %016x is %016x, not %016x", back(number), got, number)
		}
	}
}

func checkApart(t *testing.T, a, b uint64) {
	t.Helper()
	nextA, numberA := Next(a)
	nextB, numberB := Next(b)
	if nextA == nextB {
		t.Errorf("%016x and %016x have the same next state %016x", a, b, nextA)
	}
	if numberA == numberB {
		t.Errorf("%016x and %016x have the same number %016x", a, b, numberA)
	}
}

func TestStatesThatPartInOneBit(t *testing.T) {
	for _, state := range states() {
		for i := range 64 {
			checkApart(t, state, state^1<<i)
		}
	}
}

func TestStatesThatPartInOneBitWrittenOut(t *testing.T) {
	rows := []struct{ state, next, number uint64 }{
		{0, 0x9e3779b97f4a7c15, 0xe220a8397b1dcdaf},
		{1, 0x9e3779b97f4a7c16, 0x910a2dec89025cc1},
		{1 << 32, 0x9e3779ba7f4a7c15, 0xc42c5a1aa3820138},
		{1 << 63, 0x1e3779b97f4a7c15, 0x481ec0a212a9f3db},
	}
	for i, row := range rows {
		checkNext(t, row.state, row.next, row.number)
		for _, other := range rows[:i] {
			checkApart(t, row.state, other.state)
		}
	}
}

func TestStatesSideBySide(t *testing.T) {
	for _, from := range []uint64{0, 1 << 31, 1 << 32, 1<<63 - 5000, 0x61c8864680b583eb - 5000, greatest - 5000} {
		nexts, numbers := map[uint64]uint64{}, map[uint64]uint64{}
		for i := uint64(0); i < 10000; i++ {
			next, number := Next(from + i)
			if other, ok := nexts[next]; ok {
				t.Fatalf("%016x and %016x have the same next state", other, from+i)
			}
			if other, ok := numbers[number]; ok {
				t.Fatalf("%016x and %016x have the same number", other, from+i)
			}
			nexts[next], numbers[number] = from+i, from+i
		}
	}
}

// What was drawn in between, of other states and of the same, is without weight.
func TestTheSameStateHasTheSame(t *testing.T) {
	for _, state := range states() {
		next, number := Next(state)
		belowNext, below := Below(state, 1000)
		Next(state + 1)
		Below(^state, 7)
		Below(state, 0)
		checkNext(t, state, next, number)
		checkBelow(t, state, 1000, belowNext, below)
	}
}

// Below goes on as Next does, whichever n it is.
func TestBelowGoesOnAsNext(t *testing.T) {
	for _, state := range states() {
		want, number := Next(state)
		for _, n := range counts {
			checkBelow(t, state, n, want, int(number%uint64(n)))
		}
	}
}
