package command

import (
	"bytes"
	"slices"
	"strings"
	"testing"

	"ricochet/api"
	"ricochet/bits"
)

func TestTakeWrittenOut(t *testing.T) {
	for _, c := range written() {
		checkTaken(t, bits.New(plain(c.bits).bytes()), c.l)
	}
}

func TestTakeOfTheseBytes(t *testing.T) {
	r := bits.New([]byte{41, 0, 0, 0, 0, 16, 244, 247, 55, 1, 0, 0, 0, 16, 255})
	checkTaken(t, r, []api.Command{{Number: 5, MX: -127, MY: 3}, {Number: 6, Fire: true, View: 9, Frac: 128}})
	if got := r.Take(11); got != 2040 {
		t.Errorf("behind the row comes %d", got)
	}
}

// Bits that are those of no row: how many, the first number, and so on.
func TestTakeOfNoRow(t *testing.T) {
	cases := map[string]text{
		"number 0":                            "000 00000000000000000000000000000000 11111110 11111110 0",
		"number 0 that fires":                 "000 00000000000000000000000000000000 11111110 11111110 1 10000000000000000000000000000000 00000000",
		"two from 0 on":                       "100 00000000000000000000000000000000 11111110 11111110 0 11111110 11111110 0",
		"number 2^31 + 1":                     "000 10000000000000000000000000000001 11111110 11111110 0",
		"the greatest number":                 "000 11111111111111111111111111111111 11111110 11111110 0",
		"two from 2^31 on":                    "100 00000000000000000000000000000001 11111110 11111110 0 11111110 11111110 0",
		"two from the greatest on":            "100 11111111111111111111111111111111 11111110 11111110 0 11111110 11111110 0",
		"MX of 255":                           "000 10000000000000000000000000000000 11111111 11111110 0",
		"MY of 255":                           "000 10000000000000000000000000000000 11111110 11111111 0",
		"both of 255":                         "000 10000000000000000000000000000000 11111111 11111111 0",
		"MX of 255 that fires":                "000 10000000000000000000000000000000 11111111 11111110 1 10000000000000000000000000000000 00000000",
		"MX of 255 of the second":             "100 10000000000000000000000000000000 11111110 11111110 0 11111111 11111110 0",
		"MY of 255 of the second":             "100 10000000000000000000000000000000 11111110 11111110 0 11111110 11111111 0",
		"a view of 2^31 + 1":                  "000 10000000000000000000000000000000 11111110 11111110 1 10000000000000000000000000000001 00000000",
		"the greatest view":                   "000 10000000000000000000000000000000 11111110 11111110 1 11111111111111111111111111111111 00000000",
		"a view of 2^31 + 1 of the second":    "100 10000000000000000000000000000000 11111110 11111110 0 11111110 11111110 1 10000000000000000000000000000001 00000000",
		"a view of 2^31 + 1 ahead of another": "100 10000000000000000000000000000000 11111110 11111110 1 10000000000000000000000000000001 00000000 11111110 11111110 0",
	}
	for name, parts := range cases {
		// What comes behind makes no row of it.
		for _, more := range []text{"", "1", text(strings.Repeat("0", 200)), text(strings.Repeat("1", 200))} {
			x := plain(parts) + more
			if _, _, ok := x.unpacked(); ok {
				t.Fatalf("%s is a row as the text has it", name)
			}
			checkNoneTaken(t, bits.New(x.bytes()))
		}
	}
}

func TestTakeOfNumbersBeyond(t *testing.T) {
	firsts := []int64{0, 1, 2, 1<<31 - 8, 1<<31 - 7, 1<<31 - 6, 1<<31 - 1, 1 << 31, 1<<31 + 1, greatest - 8, greatest - 7, greatest - 1, greatest}
	for _, first := range firsts {
		for n := 1; n <= api.MaxCommands; n++ {
			l := from(uint32(first), n)
			r := bits.New(packed(l).bytes())
			if first < 1 || first+int64(n)-1 > 1<<31 {
				checkNoneTaken(t, r)
				continue
			}
			checkTaken(t, r, l)
		}
	}
}

// One of a row's commands has eight bits that are 255, or a View beyond 2^31; all
// others are formed.
func TestTakeOfAnUnformedOneAtEachPlace(t *testing.T) {
	for n := 1; n <= api.MaxCommands; n++ {
		for at := range n {
			begin := number(uint64(n-1), 3) + number(5, 32)
			one := number(127, 8) + number(127, 8) + "0"
			for _, spoiled := range []text{
				number(255, 8) + number(127, 8) + "0",
				number(127, 8) + number(255, 8) + "0",
				number(255, 8) + number(255, 8) + "1" + number(3, 32) + number(3, 8),
				number(0, 8) + number(0, 8) + "1" + number(1<<31+1, 32) + number(0, 8),
				number(0, 8) + number(0, 8) + "1" + number(greatest, 32) + number(255, 8),
			} {
				x := begin
				for i := range n {
					if i == at {
						x += spoiled
						continue
					}
					x += one
				}
				checkNoneTaken(t, bits.New(x.bytes()))
			}
		}
	}
}

func TestTakeOfAllWays(t *testing.T) {
	for x := range 256 {
		for y := range 256 {
			bitsOf := number(0, 3) + number(9, 32) + number(uint64(x), 8) + number(uint64(y), 8) + "0"
			r := bits.New(bitsOf.bytes())
			if x == 255 || y == 255 {
				checkNoneTaken(t, r)
				continue
			}
			checkTaken(t, r, []api.Command{{Number: 9, MX: int8(x - 127), MY: int8(y - 127)}})
		}
	}
}

// The bytes end at each place within a row; so many bits come ahead of it that
// it ends with a byte, or one bit behind one.
func TestTakeWhereTheBytesEnd(t *testing.T) {
	for _, l := range rows() {
		row := packed(l)
		for _, off := range []int{0, 7} {
			ahead := (16 - len(row)%8 - off) % 8
			whole := (text(strings.Repeat("1", ahead)) + row).bytes()
			for n := range whole {
				r := bits.New(whole[:n])
				r.Take(min(ahead, 8*n))
				checkNoneTaken(t, r)
			}
			r := bits.New(whole)
			r.Take(ahead)
			checkTaken(t, r, l)
		}
	}
}

func TestTakeOfNoBytes(t *testing.T) {
	for _, b := range [][]byte{nil, {}, {0}, {255}, {1, 2}, make([]byte, 6), make([]byte, 7), make([]byte, 300), bytes.Repeat([]byte{255}, 300)} {
		checkNoneTaken(t, bits.New(b))
	}
	checkNoneTaken(t, &bits.Reader{})
}

func TestTakeOfNoReader(t *testing.T) {
	checkNoneTaken(t, nil)
}

// A reader that has failed gives nothing, though a row comes next.
func TestTakeOfAReaderThatHasFailed(t *testing.T) {
	for _, l := range rows() {
		row := packed(l)
		r := bits.New(row.bytes())
		left := r.Left()
		r.Take(65)
		for range 3 {
			checkNoneTaken(t, r)
			if r.OK() || r.Left() != left {
				t.Fatalf("the reader tells %v, %d left of %d", r.OK(), r.Left(), left)
			}
		}
		behind := bits.New((row + row).bytes())
		checkTaken(t, behind, l)
		behind.Take(-1)
		checkNoneTaken(t, behind)
	}
}

func TestTakeOfSpoiledRows(t *testing.T) {
	for _, l := range rows() {
		row := packed(l)
		for at := range row {
			spoiled := []byte(row)
			spoiled[at] ^= 1
			checkAsTold(t, textOf(text(spoiled).bytes()))
		}
	}
}

func TestTakeOfManyBytes(t *testing.T) {
	r := rule(93)
	taken := 0
	for range 20000 {
		b := r.bytes(r.below(70))
		if len(b) > 4 && r.below(2) == 0 {
			// Few commands, from a number that isn't beyond.
			b[0] &^= 6
			b[4] &^= 7
		}
		if checkAsTold(t, textOf(b)) {
			taken++
		}
	}
	// Were it nearly all or nearly none, little would be asked.
	if taken < 2000 || taken > 18000 {
		t.Errorf("%d of 20000 are rows", taken)
	}
}

// checkAsTold holds what is taken of whole bytes against the text's own telling.
func checkAsTold(t *testing.T, x text) bool {
	t.Helper()
	want, count, ok := x.unpacked()
	r := bits.New(x.bytes())
	if !ok {
		checkNoneTaken(t, r)
		return false
	}
	checkTaken(t, r, want)
	if r.Left() != len(x)-count {
		t.Fatalf("%d bits are left, not %d", r.Left(), len(x)-count)
	}
	return true
}

// What is answered is new memory, and each row its own.
func TestWhatIsTakenIsNewMemory(t *testing.T) {
	want := from(3, 4)
	b := packed(want).bytes()
	held := bytes.Clone(b)
	first, _ := Take(bits.New(b))
	second, _ := Take(bits.New(b))
	clear(first)
	_ = append(first, api.Command{Number: 9})
	clear(b)
	if !slices.Equal(second, want) {
		t.Errorf("the second one is %v now", second)
	}
	twice := bits.New(append(held, held...))
	ahead, _ := Take(twice)
	again := slices.Clone(ahead)
	Take(twice)
	if !slices.Equal(ahead, again) {
		t.Errorf("what was taken is %v now", ahead)
	}
}
