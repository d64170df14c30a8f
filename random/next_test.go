package random

import (
	"math/big"
	"testing"
)

const greatest = 1<<64 - 1

// rule is a fixed row of numbers that look like chance, made by another way
// than the package's own.
type rule uint64

func (r *rule) word() uint64 {
	return r.half()<<32 | r.half()
}

func (r *rule) half() uint64 {
	*r = *r*6364136223846793005 + 1442695040888963407
	return uint64(*r) >> 32
}

// states are the edges, those of one bit and of all but one, those that lie
// about the one behind which 0 comes, and some between.
func states() []uint64 {
	all := []uint64{0, 1, 2, greatest, greatest - 1, 0x9e3779b97f4a7c15, 0x61c8864680b583ea}
	for i := range 64 {
		all = append(all, 1<<i, ^uint64(1<<i))
	}
	for i := uint64(0); i < 9; i++ {
		all = append(all, 0x61c8864680b583eb-4+i, 0xe1c8864680b583eb-4+i)
	}
	r := rule(81)
	for range 200 {
		all = append(all, r.word())
	}
	return all
}

// told is the next state and its number, told with numbers that have no bound
// and are brought below 2^64 by division.
func told(state uint64) (uint64, uint64) {
	next := round(new(big.Int).Add(whole(state), hex("9E3779B97F4A7C15")))
	x := folded(next, 1<<30)
	x = round(x.Mul(x, hex("BF58476D1CE4E5B9")))
	x = folded(x, 1<<27)
	x = round(x.Mul(x, hex("94D049BB133111EB")))
	return next.Uint64(), folded(x, 1<<31).Uint64()
}

func whole(x uint64) *big.Int {
	return new(big.Int).SetUint64(x)
}

func hex(s string) *big.Int {
	x, _ := new(big.Int).SetString(s, 16)
	return x
}

func round(x *big.Int) *big.Int {
	return new(big.Int).Mod(x, hex("10000000000000000"))
}

// folded is x exclusive or x by the divisor, down.
func folded(x *big.Int, by int64) *big.Int {
	return new(big.Int).Xor(x, new(big.Int).Div(x, big.NewInt(by)))
}

func checkNext(t *testing.T, state, wantNext, wantNumber uint64) {
	t.Helper()
	next, number := Next(state)
	if next != wantNext || number != wantNumber {
		t.Errorf("Next(%016x): %016x, %016x, not %016x, %016x", state, next, number, wantNext, wantNumber)
	}
}

func TestNextWrittenOut(t *testing.T) {
	rows := []struct{ state, next, number uint64 }{
		{0, 0x9e3779b97f4a7c15, 0xe220a8397b1dcdaf},
		{1, 0x9e3779b97f4a7c16, 0x910a2dec89025cc1},
		{2, 0x9e3779b97f4a7c17, 0x975835de1c9756ce},
		{3, 0x9e3779b97f4a7c18, 0x1d0b14e4db018fed},
		{7, 0x9e3779b97f4a7c1c, 0x63cbe1e459320dd7},
		{1234567, 0x9e3779b97f5d529c, 0x599ed017fb08fc85},
		{1 << 27, 0x9e3779b9874a7c15, 0x11032915e57803e6},
		{1 << 30, 0x9e3779b9bf4a7c15, 0xfcf7fc370a918eff},
		{1 << 31, 0x9e3779b9ff4a7c15, 0x25493cc63225736c},
		{1<<32 - 1, 0x9e3779ba7f4a7c14, 0x73b13ba2aff181c0},
		{1 << 32, 0x9e3779ba7f4a7c15, 0xc42c5a1aa3820138},
		{0x0123456789abcdef, 0x9f5abf2108f64a04, 0x157a3807a48faa9d},
		{0xfedcba9876543210, 0x9d143451f59eae25, 0x7ae893b5e32fee86},
		{1<<63 - 1, 0x1e3779b97f4a7c14, 0x2a67d7552e039ea7},
		{1 << 63, 0x1e3779b97f4a7c15, 0x481ec0a212a9f3db},
		{1<<63 + 1, 0x1e3779b97f4a7c16, 0xdc29f439bcbdda2a},
		{greatest - 1, 0x9e3779b97f4a7c13, 0xf3203e9039f4a821},
		{greatest, 0x9e3779b97f4a7c14, 0xe4d971771b652c20},
	}
	for _, row := range rows {
		checkNext(t, row.state, row.next, row.number)
	}
}

// The next state goes round from 0x61c8864680b583eb on.
func TestNextGoesRound(t *testing.T) {
	rows := []struct{ state, next, number uint64 }{
		{0x61c8864680b583e9, greatest - 1, 0xda26e52fa3730902},
		{0x61c8864680b583ea, greatest, 0xb4d055fcf2cbbd7b},
		{0x61c8864680b583eb, 0, 0},
		{0x61c8864680b583ec, 1, 0x5692161d100b05e5},
		{0x61c8864680b583ed, 2, 0xdbd238973a2b148a},
		{0x9e3779b97f4a7c15, 0x3c6ef372fe94f82a, 0x6e789e6aa1b965f4},
		{0xe1c8864680b583ea, 1<<63 - 1, 0x5a682afe7965debd},
		{0xe1c8864680b583eb, 1 << 63, 0x25c26ea579cea98a},
	}
	for _, row := range rows {
		checkNext(t, row.state, row.next, row.number)
	}
}

// The states whose numbers are at the edges.
func TestNextOfTheEdgesOfNumbers(t *testing.T) {
	rows := []struct{ state, next, number uint64 }{
		{0xf8364607e9c949bd, 0x966dbfc16913c5d2, 1},
		{0x7d6c2e9076b45a87, 0x1ba3a849f5fed69c, 1 << 62},
		{0x0d4f88b4067761bd, 0xab87026d85c1ddd2, 1<<63 - 1},
		{0x2fedf1efce1d5545, 0xce256ba94d67d15a, 1 << 63},
		{0x31628af67b2131ab, 0xcf9a04affa6badc0, greatest},
	}
	for _, row := range rows {
		checkNext(t, row.state, row.next, row.number)
	}
}

func TestNextOneBehindTheOther(t *testing.T) {
	rows := []struct {
		state   uint64
		numbers [8]uint64
		last    uint64
	}{
		{0, [8]uint64{
			0xe220a8397b1dcdaf, 0x6e789e6aa1b965f4, 0x06c45d188009454f, 0xf88bb8a8724c81ec,
			0x1b39896a51a8749b, 0x53cb9f0c747ea2ea, 0x2c829abe1f4532e1, 0xc584133ac916ab3c,
		}, 0xf1bbcdcbfa53e0a8},
		{1234567, [8]uint64{
			0x599ed017fb08fc85, 0x2c73f08458540fa5, 0x883ebce5a3f27c77, 0x3fbef740e9177b3f,
			0xe3b8346708cb5ecd, 0x6c4f7dbc989944f6, 0x9734aed70f5d5e85, 0x46793dd6f7df31b1,
		}, 0xf1bbcdcbfa66b72f},
		{0xdeadbeef, [8]uint64{
			0x4adfb90f68c9eb9b, 0xde586a3141a10922, 0x021fbc2f8e1cfc1d, 0x7466ce737be16790,
			0x3bfa8764f685bd1c, 0xab203e503cb55b3f, 0x5a2fdc2bf68cedb3, 0xb30a4ccf430b1b5a,
		}, 0xf1bbcdccd9019f97},
		{greatest, [8]uint64{
			0xe4d971771b652c20, 0xe99ff867dbf682c9, 0x382ff84cb27281e9, 0x6d1db36ccba982d2,
			0xb4a0472e578069ae, 0xd31dadbda438bb33, 0xf14f2cf802083fa5, 0x405da438a39e8064,
		}, 0xf1bbcdcbfa53e0a7},
	}
	for _, row := range rows {
		state := row.state
		for i, want := range row.numbers {
			next, number := Next(state)
			if number != want {
				t.Errorf("from %x on, number %d is %016x, not %016x", row.state, i, number, want)
			}
			state = next
		}
		if state != row.last {
			t.Errorf("from %x on, the state behind eight is %016x, not %016x", row.state, state, row.last)
		}
	}
}

func TestNextAgainstNumbersWithoutBound(t *testing.T) {
	for _, state := range states() {
		for range 4 {
			next, number := told(state)
			checkNext(t, state, next, number)
			state = next
		}
	}
}
