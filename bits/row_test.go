package bits

import (
	"math"
	"math/big"
	"strings"
	"testing"
)

// row is bits told otherwise: a text of 0 and 1, the first bit first.
type row string

// rowOf is what Put(x, n) must put, told without shifts.
func rowOf(x uint64, n int) row {
	var all strings.Builder
	for range n {
		all.WriteByte("01"[x%2])
		x /= 2
	}
	return row(all.String())
}

// folded is the number that is parted in sevens for x.
func folded(x int64) *big.Int {
	twice := new(big.Int).Mul(big.NewInt(2), big.NewInt(x))
	if x < 0 {
		twice.Neg(twice)
		return twice.Sub(twice, big.NewInt(1))
	}
	return twice
}

// smallRow is what Small(x) must put.
func smallRow(x int64) row {
	left, rest := folded(x), new(big.Int)
	var all row
	for {
		left.DivMod(left, big.NewInt(128), rest)
		more := uint64(left.Sign())
		all += rowOf(more, 1) + rowOf(rest.Uint64(), 7)
		if more == 0 {
			return all
		}
	}
}

// bytes are r's bytes, the last one filled up with 0.
func (r row) bytes() []byte {
	b := make([]byte, (len(r)+7)/8)
	for i := range r {
		if r[i] == '1' {
			b[i/8] += byte(math.Pow(2, float64(i%8)))
		}
	}
	return b
}

// bitsOf is the row of b's bits.
func bitsOf(b []byte) row {
	var all row
	for _, one := range b {
		all += rowOf(uint64(one), 8)
	}
	return all
}

// number is what r's bits make, the first one the lowest.
func (r row) number() *big.Int {
	n := new(big.Int)
	for i := len(r) - 1; i >= 0; i-- {
		n.Add(n.Add(n, n), big.NewInt(int64(r[i]-'0')))
	}
	return n
}

// small is the small number with which r begins, how many bits it has, and
// whether there is one.
func (r row) small() (int64, int, bool) {
	var sevens row
	for at := 0; at+8 <= len(r); at += 8 {
		sevens += r[at+1 : at+8]
		if r[at] == '1' {
			continue
		}
		n := sevens.number()
		if n.BitLen() > 64 || at > 0 && r[at+1:at+8] == "0000000" {
			return 0, 0, false
		}
		odd := n.Bit(0) == 1
		if odd {
			n.Add(n, big.NewInt(1)).Neg(n)
		}
		return n.Div(n, big.NewInt(2)).Int64(), at + 8, true
	}
	return 0, 0, false
}

// rule is a fixed row of numbers that look like chance.
type rule uint64

func (r *rule) word() uint64 {
	*r = *r*6364136223846793005 + 1442695040888963407
	high := uint64(*r) >> 32
	*r = *r*6364136223846793005 + 1442695040888963407
	return high<<32 | uint64(*r)>>32
}

// below is a number from 0 to n - 1.
func (r *rule) below(n int) int { return int(r.word() >> 33 % uint64(n)) }

func (r *rule) bytes(n int) []byte {
	b := make([]byte, n)
	for i := range b {
		b[i] = byte(r.word() >> 56)
	}
	return b
}

// numbers are of no bits, of all, of each single one, of all up to it, and mixed.
func numbers() []uint64 {
	all := []uint64{0, math.MaxUint64, 0x5555555555555555, 0xaaaaaaaaaaaaaaaa, 0x0123456789abcdef, 0xfedcba9876543210}
	for i := range 64 {
		all = append(all, 1<<i, 1<<i-1, math.MaxUint64-(1<<i-1))
	}
	return all
}

// smalls are numbers at both ends, near 0, and around each power of 2.
func smalls() []int64 {
	all := []int64{math.MaxInt64, math.MaxInt64 - 1, math.MinInt64, math.MinInt64 + 1}
	for x := int64(-300); x <= 300; x++ {
		all = append(all, x)
	}
	for i := range 63 {
		for off := int64(-2); off <= 2; off++ {
			all = append(all, 1<<i+off, -1<<i-off)
		}
	}
	return all
}

// A reference that is wrong by itself would hide what it should show.
func TestTheRowsThemselves(t *testing.T) {
	if got := rowOf(5, 3) + rowOf(1, 1); got != "1011" || got.bytes()[0] != 13 {
		t.Errorf("5 and 1 make %s, %v", got, got.bytes())
	}
	if got := smallRow(-3); got != "01010000" {
		t.Errorf("-3 is %s", got)
	}
	if got := smallRow(math.MinInt64); got != row(strings.Repeat("1", 72)+"01000000") {
		t.Errorf("the least number is %s", got)
	}
	for _, x := range smalls() {
		bits := smallRow(x)
		if got, count, ok := (bits + "1").small(); got != x || count != len(bits) || !ok {
			t.Errorf("%d is %d, of %d bits, %v", x, got, count, ok)
		}
	}
}
