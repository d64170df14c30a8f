package entity

import (
	"math/big"
	"strings"
	"testing"

	"ricochet/api"
	"ricochet/bits"
)

func TestTakeWrittenOut(t *testing.T) {
	for _, x := range written() {
		p := x.pair()
		checkTaken(t, bits.New(plain(x.bits).bytes()), p.base, p.e)
	}
}

func TestTakeOfTheseBytes(t *testing.T) {
	r := bits.New([]byte{145, 131, 49, 255})
	base := api.Entity{ID: 3, Kind: 1, At: api.Vec{X: 9, Y: -7}, Health: 100}
	checkTaken(t, r, base, api.Entity{ID: 3, Kind: 1, At: api.Vec{X: 5, Y: -7}, Health: 50})
	if got := r.Take(10); got != 1020 {
		t.Errorf("behind the entity comes %d", got)
	}
}

// checkNoneFollows takes none of these bits, whatever comes behind them.
func checkNoneFollows(t *testing.T, name string, base api.Entity, parts text) {
	t.Helper()
	for _, more := range []text{"", "1", text(strings.Repeat("0", 600)), text(strings.Repeat("1", 600))} {
		x := plain(parts) + more
		if _, _, ok := x.unpacked(base); ok {
			t.Fatalf("%s: that is an entity as the text has it", name)
		}
		checkNoneTaken(t, bits.New(x.bytes()), base)
	}
}

// A field is told to be another one, by 0.
func TestTakeOfADifferenceOfNothing(t *testing.T) {
	for _, base := range []api.Entity{somePlayer(), deadPlayer(), someBall()} {
		for marks := 1; marks < 64; marks++ {
			var others, differences text
			for i := range 6 {
				others += text("01"[marks>>i%2])
				if marks>>i%2 == 1 {
					differences += "00000000"
				}
			}
			checkNoneFollows(t, "all by 0", base, others+differences)
		}
	}
	base := someBall()
	cases := map[string]text{
		"X by 0, Y by 1":        "110000 00000000 00100000",
		"X by 1, Y by 0":        "110000 00100000 00000000",
		"Y by 0 between others": "111000 00100000 00000000 00100000",
		"X of Vel by 0":         "001000 00000000",
		"Y of Vel by 0":         "000100 00000000",
		"Health by 0":           "000010 00000000",
		"Wait by 0":             "000001 00000000",
		"Wait by 0 at the end":  "100001 00100000 00000000",
		"a small 0 too long":    "100000 10000000 00000000",
		"a small 1 too long":    "100000 10100000 00000000",
		"a number that is long": "100000 10000000 10000000 10000000 10000000 10000000 10000000 10000000 10000000 10000000 00100000",
		"more than 64 bits":     text("100000 " + strings.Repeat("11111111 ", 9) + "01100000"),
	}
	for name, parts := range cases {
		checkNoneFollows(t, name, base, parts)
	}
}

// Bits that lead to what isn't formed, on bases that are.
func TestTakeOfUnformed(t *testing.T) {
	for _, e := range unformed() {
		bases := []api.Entity{e, {ID: e.ID, Kind: e.Kind, Health: 100}, entityOf(e.ID, e.Kind, row{limit, -limit, 65536, -65536, 100, 0}), entityOf(e.ID, e.Kind, row{least, greatest, least, greatest, least, greatest})}
		for _, base := range bases {
			checkNoneFollows(t, "no formed one", base, packed(rowOf(base), rowOf(e)))
		}
	}
}

// The steps to the edge of each field, and one more, from a base within it.
func TestTakeOfEdges(t *testing.T) {
	bounds := [4]int64{limit, limit, 65536, 65536}
	for _, base := range []api.Entity{somePlayer(), deadPlayer(), someBall()} {
		for i, most := range bounds {
			for _, number := range []int64{-most - 1, -most, most, most + 1} {
				x := rowOf(base)
				x[i] = number
				r := bits.New(packed(rowOf(base), x).bytes())
				if number < -most || number > most {
					checkNoneTaken(t, r, base)
					continue
				}
				checkTaken(t, r, base, entityOf(base.ID, base.Kind, x))
			}
		}
	}
}

func TestTakeOfHealthAndWait(t *testing.T) {
	for health := -2; health <= 102; health++ {
		for wait := -2; wait <= 22; wait++ {
			for _, base := range []api.Entity{somePlayer(), deadPlayer(), someBall()} {
				e := base
				e.Health, e.Wait = health, wait
				r := bits.New(packed(rowOf(base), rowOf(e)).bytes())
				if formed(e) {
					checkTaken(t, r, base, e)
					continue
				}
				checkNoneTaken(t, r, base)
			}
		}
	}
}

// Where only the lowest bits of a sum would be formed, none is taken.
func TestTakeOfDifferencesBeyond(t *testing.T) {
	for i := range 6 {
		for shift := uint(8); shift < 64; shift++ {
			for _, base := range []api.Entity{somePlayer(), deadPlayer(), someBall()} {
				for _, sign := range []int64{1, -1} {
					x := rowOf(base)
					x[i] += sign << shift
					r := bits.New(packed(rowOf(base), x).bytes())
					if e := entityOf(base.ID, base.Kind, x); formed(e) {
						checkTaken(t, r, base, e)
						continue
					}
					checkNoneTaken(t, r, base)
				}
			}
		}
	}
}

// The bits of a formed one, on bases of which no formed one has ID and Kind.
func TestTakeOnNoFormedOnes(t *testing.T) {
	ids := []int{least, -9, -1, 0, 1, 8, 9, 16, 17, 257, 1<<32 + 1, greatest}
	kinds := []int{least, -1, 0, 1, 2, 3, 257, 1<<32 + 1, greatest}
	for _, id := range ids {
		for _, kind := range kinds {
			for _, x := range written() {
				base, e := entityOf(id, kind, x.base), entityOf(id, kind, x.e)
				r := bits.New(plain(x.bits).bytes())
				if formed(e) {
					checkTaken(t, r, base, e)
					continue
				}
				checkNoneTaken(t, r, base)
			}
		}
	}
}

// Bytes that end within an entity.
func TestTakeOfTooFew(t *testing.T) {
	for _, x := range written() {
		p, whole := x.pair(), plain(x.bits)
		for n := range len(whole) {
			// All but n bits are taken ahead, so that no bit fills up the last byte.
			rest := (8 - n%8) % 8
			r := bits.New((text(strings.Repeat("1", rest)) + whole[:n]).bytes())
			r.Take(rest)
			if r.Left() != n {
				t.Fatalf("%d bits are left, not %d", r.Left(), n)
			}
			checkNoneTaken(t, r, p.base)
		}
	}
}

func TestTakeWithoutAReader(t *testing.T) {
	for _, base := range []api.Entity{{}, somePlayer(), deadPlayer(), someBall()} {
		checkNoneTaken(t, nil, base)
		checkNoneTaken(t, bits.New(nil), base)
		checkNoneTaken(t, bits.New([]byte{}), base)
	}
}

// A reader that has failed gives 0, which would be base itself.
func TestTakeOfAReaderThatHasFailed(t *testing.T) {
	for _, p := range pairs() {
		r := bits.New(packed(rowOf(p.base), rowOf(p.e)).bytes())
		left := r.Left()
		r.Take(65)
		checkNoneTaken(t, r, p.base)
		checkNoneTaken(t, r, p.e)
		if r.OK() || r.Left() != left {
			t.Fatalf("a reader that had failed is now %v, with %d of %d bits left", r.OK(), r.Left(), left)
		}
	}
}

// Many bytes, most of which lead to no entity, on bases of all kinds.
func TestTakeOfMany(t *testing.T) {
	r := rule(77)
	taken := 0
	for range 40000 {
		e := r.entity(1 + r.below(16))
		base := r.base(e)
		if r.below(2) == 0 {
			base = e
		}
		b := r.bytes(r.below(12))
		if len(b) > 0 && r.below(2) == 0 {
			b[0] &= 1<<(r.below(8)) - 1
		}
		reader := bits.New(b)
		want, count, ok := textOf(b).unpacked(base)
		if !ok {
			checkNoneTaken(t, reader, base)
			continue
		}
		taken++
		checkTaken(t, reader, base, want)
		if got := 8*len(b) - reader.Left(); got != count {
			t.Fatalf("%d bits are taken, not %d", got, count)
		}
	}
	if taken < 2000 {
		t.Errorf("only %d are taken", taken)
	}
}

// Bits of formed ones of which one is turned, or some are gone at the end.
func TestTakeOfSpoiled(t *testing.T) {
	for _, p := range pairs()[:600] {
		whole := packed(rowOf(p.base), rowOf(p.e))
		for at := range whole {
			turned := whole[:at] + text("10"[whole[at]-'0']) + whole[at+1:]
			b := turned.bytes()
			want, _, ok := textOf(b).unpacked(p.base)
			if ok {
				checkTaken(t, bits.New(b), p.base, want)
				continue
			}
			checkNoneTaken(t, bits.New(b), p.base)
		}
	}
}

// The reference goes round 2^64 by itself.
func TestTheTextGoesRound(t *testing.T) {
	for _, x := range []int64{least, -1, 0, 1, greatest} {
		beyond := new(big.Int).Add(big.NewInt(x), new(big.Int).Lsh(big.NewInt(1), 64))
		if got := round(beyond); got.Int64() != x || !got.IsInt64() {
			t.Errorf("%d goes round to %v", x, got)
		}
	}
}
