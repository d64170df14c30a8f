package fragment

import (
	"testing"

	"ricochet/api"
)

// fed is a part that is fed, whether its message is whole then, and of how many
// messages parts are kept then.
type fed struct {
	id           uint16
	count, place int
	whole        bool
	waits        int
}

func checkRow(t *testing.T, row []fed) {
	t.Helper()
	a, s := &Assembler{}, &shelf{}
	for _, x := range row {
		part := nth(x.id, x.count, x.place)
		if x.whole {
			checkWhole(t, a, part, whole(x.id, x.count), x.waits)
		} else {
			checkPart(t, a, part, x.waits)
		}
		if _, ok, e := s.feed(part); ok != x.whole || e != api.OK || s.waits() != x.waits {
			t.Fatalf("the second telling says otherwise: %v, %v, %d wait", ok, e, s.waits())
		}
	}
}

func TestFourMessagesWait(t *testing.T) {
	checkRow(t, []fed{
		{1, 2, 0, false, 1}, {2, 3, 1, false, 2}, {3, 2, 1, false, 3}, {4, 14, 13, false, 4},
		{2, 3, 0, false, 4}, {4, 14, 0, false, 4},
		{3, 2, 0, true, 3}, {1, 2, 1, true, 2}, {2, 3, 2, true, 1},
	})
}

// The first one goes: what comes of it later begins it anew, and then the second
// one goes.
func TestTheFifthLetsTheFirstGo(t *testing.T) {
	checkRow(t, []fed{
		{1, 3, 0, false, 1}, {2, 2, 0, false, 2}, {3, 2, 0, false, 3}, {4, 2, 0, false, 4},
		{5, 2, 1, false, 4},
		{1, 3, 2, false, 4},
		{3, 2, 1, true, 3}, {4, 2, 1, true, 2}, {5, 2, 0, true, 1},
		{1, 3, 0, false, 1}, {1, 3, 1, true, 0},
		{2, 2, 1, false, 1}, {2, 2, 0, true, 0},
	})
}

func TestTheFifthLeavesTheOthers(t *testing.T) {
	checkRow(t, []fed{
		{1, 2, 0, false, 1}, {2, 2, 1, false, 2}, {3, 2, 0, false, 3}, {4, 2, 1, false, 4},
		{5, 2, 0, false, 4},
		{2, 2, 0, true, 3}, {3, 2, 1, true, 2}, {4, 2, 0, true, 1}, {5, 2, 1, true, 0},
		{1, 2, 0, false, 1}, {1, 2, 1, true, 0},
	})
}

// It is the part that came first that counts, not the one that came last, nor how
// many there are, nor which places they have.
func TestThePartThatCameFirstCounts(t *testing.T) {
	checkRow(t, []fed{
		{1, 4, 3, false, 1}, {2, 4, 0, false, 2}, {3, 4, 1, false, 3}, {4, 4, 2, false, 4},
		{1, 4, 0, false, 4}, {1, 4, 1, false, 4},
		{5, 4, 0, false, 4},
		{2, 4, 1, false, 4}, {2, 4, 2, false, 4}, {2, 4, 3, true, 3},
		{1, 4, 2, false, 4},
		{3, 4, 0, false, 4}, {3, 4, 2, false, 4}, {3, 4, 3, true, 3},
	})
	// Where each but the first one had more parts later, and they were turned about.
	checkRow(t, []fed{
		{1, 3, 2, false, 1}, {2, 3, 1, false, 2}, {3, 3, 0, false, 3}, {4, 3, 2, false, 4},
		{4, 3, 1, false, 4}, {3, 3, 1, false, 4}, {2, 3, 0, false, 4}, {1, 3, 0, false, 4},
		{5, 3, 2, false, 4},
		{2, 3, 2, true, 3}, {3, 3, 2, true, 2}, {4, 3, 0, true, 1},
		{1, 3, 1, false, 2},
	})
}

// Whose turn it is to go doesn't hang on the ids or the counts.
func TestWhoGoesDoesNotHangOnNames(t *testing.T) {
	for _, ids := range [][]uint16{{1, 2, 3, 4, 5}, {5, 4, 3, 2, 1}, {3, 5, 1, 4, 2}, {65535, 0, 1, 2, 3}, {0, 65535, 256, 255, 257}, {9, 8, 9999, 7, 10000}} {
		for _, counts := range [][]int{{2, 2, 2, 2, 2}, {2, 3, 4, 5, 6}, {6, 5, 4, 3, 2}, {14, 2, 14, 2, 14}, {2, 14, 13, 12, 3}} {
			a := &Assembler{}
			for i, id := range ids {
				checkPart(t, a, nth(id, counts[i], 1), min(i+1, 4))
			}
			for i := 1; i < 5; i++ {
				checkRefused(t, a, nth(ids[i], counts[i], 1), api.ErrOld)
			}
			checkPart(t, a, nth(ids[0], counts[0], 1), 4)
			checkPart(t, a, nth(ids[1], counts[1], 1), 4)
			checkPart(t, a, nth(ids[2], counts[2], 1), 4)
			checkRefused(t, a, nth(ids[0], counts[0], 1), api.ErrOld)
			checkRefused(t, a, nth(ids[1], counts[1], 1), api.ErrOld)
			checkRefused(t, a, nth(ids[4], counts[4], 1), api.ErrOld)
		}
	}
}

// Where one has just been made whole there is room, and none goes.
func TestTheFifthBehindAWholeOne(t *testing.T) {
	checkRow(t, []fed{
		{1, 2, 0, false, 1}, {2, 2, 0, false, 2}, {3, 2, 0, false, 3}, {4, 2, 0, false, 4},
		{1, 2, 1, true, 3},
		{5, 2, 0, false, 4},
		{2, 2, 1, true, 3}, {3, 2, 1, true, 2}, {4, 2, 1, true, 1}, {5, 2, 1, true, 0},
	})
	// The second of the four: the first one is still the next to go.
	checkRow(t, []fed{
		{1, 2, 0, false, 1}, {2, 2, 0, false, 2}, {3, 2, 0, false, 3}, {4, 2, 0, false, 4},
		{2, 2, 1, true, 3},
		{5, 2, 0, false, 4},
		{6, 2, 0, false, 4},
		{3, 2, 1, true, 3}, {4, 2, 1, true, 2}, {5, 2, 1, true, 1}, {6, 2, 1, true, 0},
		{1, 2, 1, false, 1},
	})
	// The last of the four, and the fifth one too.
	checkRow(t, []fed{
		{1, 2, 0, false, 1}, {2, 2, 0, false, 2}, {3, 2, 0, false, 3}, {4, 2, 0, false, 4},
		{4, 2, 1, true, 3}, {5, 2, 0, false, 4}, {5, 2, 1, true, 3}, {6, 2, 1, false, 4},
		{1, 2, 1, true, 3}, {7, 2, 1, false, 4}, {2, 2, 1, true, 3}, {3, 2, 1, true, 2},
		{6, 2, 0, true, 1}, {7, 2, 0, true, 0},
	})
}

// One that begins anew stands behind those that wait by then.
func TestWhatBeginsAnewIsTheLast(t *testing.T) {
	checkRow(t, []fed{
		{1, 2, 0, false, 1}, {2, 2, 0, false, 2}, {3, 2, 0, false, 3},
		{1, 2, 1, true, 2}, {1, 2, 1, false, 3}, {4, 2, 0, false, 4},
		{5, 2, 0, false, 4},
		{1, 2, 0, true, 3},
		{3, 2, 1, true, 2},
		{2, 2, 1, false, 3}, {2, 2, 0, true, 2},
	})
	checkRow(t, []fed{
		{1, 2, 0, false, 1}, {2, 2, 0, false, 2}, {3, 2, 0, false, 3}, {4, 2, 0, false, 4}, {5, 2, 0, false, 4},
		{1, 2, 0, false, 4}, {6, 2, 0, false, 4}, {7, 2, 0, false, 4},
		{1, 2, 1, true, 3}, {5, 2, 1, true, 2}, {6, 2, 1, true, 1}, {7, 2, 1, true, 0},
	})
}

func TestManyMessagesLetTheFirstGo(t *testing.T) {
	a := &Assembler{}
	for id := range uint16(300) {
		checkPart(t, a, nth(id, 2, int(id)%2), min(int(id)+1, 4))
	}
	for id := uint16(299); id > 295; id-- {
		checkWhole(t, a, nth(id, 2, 1-int(id)%2), whole(id, 2), int(id)-296)
	}
	for id := range uint16(3) {
		checkPart(t, a, nth(id, 2, 1-int(id)%2), int(id)+1)
	}
}

// Messages of the same id and other counts are others.
func TestMessagesOfOneId(t *testing.T) {
	checkRow(t, []fed{
		{7, 2, 0, false, 1}, {7, 3, 0, false, 2}, {7, 3, 1, false, 2}, {7, 2, 1, true, 1}, {7, 3, 2, true, 0},
	})
	checkRow(t, []fed{
		{7, 2, 0, false, 1}, {7, 3, 0, false, 2}, {7, 4, 0, false, 3}, {7, 14, 0, false, 4},
		{7, 5, 0, false, 4},
		{7, 3, 1, false, 4}, {7, 3, 2, true, 3},
		{7, 2, 1, false, 4}, {7, 2, 0, true, 3},
	})
	a := &Assembler{}
	checkPart(t, a, nth(7, 2, 1), 1)
	checkRefused(t, a, nth(7, 2, 1), api.ErrOld)
	checkPart(t, a, nth(7, 3, 1), 2)
	checkRefused(t, a, nth(7, 3, 1), api.ErrOld)
	checkWhole(t, a, nth(7, 1, 0), whole(7, 1), 2)
}

// Ids that differ in one bit are others, and so are those with bytes turned about.
func TestMessagesOfIdsThatAreNear(t *testing.T) {
	for _, id := range []uint16{0, 0x0102, 65535} {
		others := []uint16{id ^ 0xffff, id>>8 | id<<8 ^ 0x8000}
		for i := range 16 {
			others = append(others, id^1<<i)
		}
		for _, other := range others {
			checkRow(t, []fed{
				{id, 3, 0, false, 1}, {other, 3, 0, false, 2}, {other, 3, 1, false, 2}, {id, 3, 2, false, 2},
				{other, 3, 2, true, 1}, {id, 3, 1, true, 0},
			})
		}
	}
	checkRow(t, []fed{
		{0x0102, 2, 0, false, 1}, {0x0201, 2, 1, false, 2}, {0x0201, 2, 0, true, 1}, {0x0102, 2, 1, true, 0},
	})
}
