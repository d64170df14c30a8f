package random

import (
	"math"
	"math/big"
	"testing"
)

// counts are the edges of n, and some between.
var counts = []int{
	1, 2, 3, 5, 6, 7, 10, 100, 255, 256, 257, 65535, 65536, 65537,
	math.MaxInt32 - 1, math.MaxInt32, math.MaxInt32 + 1, 1<<32 - 1, 1 << 32, 1<<32 + 1,
	1<<62 - 1, 1 << 62, 1<<62 + 1, 1<<62 + 1<<61, math.MaxInt - 1, math.MaxInt,
}

func checkBelow(t *testing.T, state uint64, n int, wantNext uint64, want int) {
	t.Helper()
	next, x := Below(state, n)
	if next != wantNext || x != want {
		t.Errorf("Below(%016x, %d): %016x, %d, not %016x, %d", state, n, next, x, wantNext, want)
	}
}

func TestBelowWrittenOut(t *testing.T) {
	rows := []struct {
		state uint64
		n     int
		next  uint64
		want  int
	}{
		{0, 2, 0x9e3779b97f4a7c15, 1},
		{0, 3, 0x9e3779b97f4a7c15, 1},
		{0, 5, 0x9e3779b97f4a7c15, 0},
		{0, 10, 0x9e3779b97f4a7c15, 5},
		{0, 100, 0x9e3779b97f4a7c15, 35},
		{0, 65536, 0x9e3779b97f4a7c15, 52655},
		{0, math.MaxInt32, 0x9e3779b97f4a7c15, 1063198245},
		{0, 1<<32 + 1, 0x9e3779b97f4a7c15, 2566727031},
		{1, 3, 0x9e3779b97f4a7c16, 2},
		{1, 6, 0x9e3779b97f4a7c16, 5},
		{1, 100, 0x9e3779b97f4a7c16, 65},
		{7, 3, 0x9e3779b97f4a7c1c, 0},
		{7, 5, 0x9e3779b97f4a7c1c, 2},
		{7, 100, 0x9e3779b97f4a7c1c, 87},
		{1234567, 10, 0x9e3779b97f5d529c, 7},
		{1234567, 100, 0x9e3779b97f5d529c, 17},
		{1 << 63, 100, 0x1e3779b97f4a7c15, 15},
		{greatest, 3, 0x9e3779b97f4a7c14, 2},
		{greatest, 10, 0x9e3779b97f4a7c14, 6},
		{greatest, 100, 0x9e3779b97f4a7c14, 36},
	}
	for _, row := range rows {
		checkBelow(t, row.state, row.n, row.next, row.want)
	}
}

func TestBelowGoesRound(t *testing.T) {
	rows := []struct {
		state uint64
		n     int
		next  uint64
		want  int
	}{
		{0x61c8864680b583ea, 10, greatest, 7},
		{0x61c8864680b583ea, 100, greatest, 67},
		{0x61c8864680b583eb, 10, 0, 0},
		{0x61c8864680b583eb, math.MaxInt, 0, 0},
		{0x61c8864680b583ec, 10, 1, 9},
		{0x61c8864680b583ec, 100, 1, 89},
	}
	for _, row := range rows {
		checkBelow(t, row.state, row.n, row.next, row.want)
	}
}

// Numbers from 2^63 on would be below 0 with a sign.
func TestBelowAGreatCount(t *testing.T) {
	rows := []struct {
		state uint64
		n     int
		next  uint64
		want  int
	}{
		{0, 1<<62 + 1, 0x9e3779b97f4a7c15, 2459150361376443820},
		{0, math.MaxInt - 1, 0x9e3779b97f4a7c15, 7070836379803831729},
		{0, math.MaxInt, 0x9e3779b97f4a7c15, 7070836379803831728},
		{1, 1<<62 + 1, 0x9e3779b97f4a7c16, 1227844342346046655},
		{1, math.MaxInt, 0x9e3779b97f4a7c16, 1227844342346046658},
		{7, 1<<62 + 1, 0x9e3779b97f4a7c1c, 2579403582464986582},
		{7, math.MaxInt, 0x9e3779b97f4a7c1c, 7191089600892374487},
		{greatest, 1<<62 + 1, 0x9e3779b97f4a7c14, 2655278211686280221},
		{greatest, math.MaxInt, 0x9e3779b97f4a7c14, 7266964230113668129},
		{0x61c8864680b583ea, math.MaxInt, greatest, 3805636230021627260},
	}
	for _, row := range rows {
		checkBelow(t, row.state, row.n, row.next, row.want)
	}
}

// The number is just n, or beside it; the number is at an edge.
func TestBelowWhereTheNumberMeetsTheCount(t *testing.T) {
	rows := []struct {
		state uint64
		n     int
		next  uint64
		want  int
	}{
		{7, 7191089600892374486, 0x9e3779b97f4a7c1c, 1},
		{7, 7191089600892374487, 0x9e3779b97f4a7c1c, 0},
		{7, 7191089600892374488, 0x9e3779b97f4a7c1c, 7191089600892374487},
		{0x7d6c2e9076b45a87, 1 << 62, 0x1ba3a849f5fed69c, 0},
		{0x7d6c2e9076b45a87, 1<<62 + 1, 0x1ba3a849f5fed69c, 1 << 62},
		{0xea81f8e8c877763a, math.MaxInt, 0x88b972a247c1f24f, math.MaxInt - 1},
		{0xea81f8e8c877763a, math.MaxInt - 1, 0x88b972a247c1f24f, 0},
		{0x0d4f88b4067761bd, math.MaxInt, 0xab87026d85c1ddd2, 0},
		{0x2fedf1efce1d5545, math.MaxInt, 0xce256ba94d67d15a, 1},
		{0x2fedf1efce1d5545, 10, 0xce256ba94d67d15a, 8},
		{0x31628af67b2131ab, math.MaxInt, 0xcf9a04affa6badc0, 1},
		{0x31628af67b2131ab, math.MaxInt - 1, 0xcf9a04affa6badc0, 3},
		{0x31628af67b2131ab, 10, 0xcf9a04affa6badc0, 5},
	}
	for _, row := range rows {
		checkBelow(t, row.state, row.n, row.next, row.want)
	}
}

func TestBelowOneIsZeroAndGoesOn(t *testing.T) {
	for _, state := range states() {
		next, _ := told(state)
		checkBelow(t, state, 1, next, 0)
	}
}

func TestBelowNoCountStaysWhereItIs(t *testing.T) {
	for _, state := range states() {
		for _, n := range []int{0, -1, -2, -10, math.MinInt32, math.MinInt + 1, math.MinInt} {
			checkBelow(t, state, n, state, 0)
		}
	}
}

func TestBelowAgainstNumbersWithoutBound(t *testing.T) {
	r := rule(82)
	for _, state := range states() {
		next, number := told(state)
		drawn := int(r.word()>>1) | 1
		for _, n := range append(counts[:len(counts):len(counts)], drawn, drawn>>20|1) {
			rest := new(big.Int).Mod(whole(number), big.NewInt(int64(n)))
			checkBelow(t, state, n, next, int(rest.Int64()))
		}
	}
}

func TestBelowOneBehindTheOther(t *testing.T) {
	want := []int{5, 0, 9, 4, 7, 0, 3, 0}
	state := uint64(0)
	for i, one := range want {
		next, x := Below(state, 10)
		if x != one {
			t.Errorf("number %d below 10 is %d, not %d", i, x, one)
		}
		state = next
	}
	if state != 0xf1bbcdcbfa53e0a8 {
		t.Errorf("the state behind eight is %016x", state)
	}
}
