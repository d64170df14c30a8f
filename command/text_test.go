package command

import (
	"bytes"
	"slices"
	"strings"
	"testing"

	"ricochet/api"
	"ricochet/bits"
)

const greatest = 1<<32 - 1

// text is bits told otherwise: 0 and 1, the first bit first. Those that are
// written out have blanks between the parts.
type text string

func plain(parts text) text {
	return text(strings.Join(strings.Fields(string(parts)), ""))
}

// number is so many bits of x, the lowest one first, told without shifts.
func number(x uint64, n int) text {
	var all strings.Builder
	for range n {
		all.WriteByte("01"[x%2])
		x /= 2
	}
	return text(all.String())
}

// packed is what a list's bits must be, whether it is a row or not.
func packed(l []api.Command) text {
	all := number(uint64(len(l)-1), 3) + number(uint64(l[0].Number), 32)
	for _, c := range l {
		all += number(uint64(int(c.MX)+127), 8) + number(uint64(int(c.MY)+127), 8)
		if !c.Fire {
			all += "0"
			continue
		}
		all += "1" + number(uint64(c.View), 32) + number(uint64(c.Frac), 8)
	}
	return all
}

// bytes are x's bytes, the last one filled up with 0.
func (x text) bytes() []byte {
	powers := [8]byte{1, 2, 4, 8, 16, 32, 64, 128}
	b := make([]byte, (len(x)+7)/8)
	for i := range x {
		if x[i] == '1' {
			b[i/8] += powers[i%8]
		}
	}
	return b
}

func textOf(b []byte) text {
	var all text
	for _, one := range b {
		all += number(uint64(one), 8)
	}
	return all
}

// cut is x's first n bits as a number, and what comes behind them; it fails
// where there are fewer.
func (x text) cut(n int) (int64, text, bool) {
	if len(x) < n {
		return 0, "", false
	}
	var all, power int64 = 0, 1
	for i := range n {
		all += power * int64(x[i]-'0')
		power *= 2
	}
	return all, x[n:], true
}

// cuts are the first numbers of x, of these widths.
func (x text) cuts(widths ...int) ([]int64, text, bool) {
	var all []int64
	for _, n := range widths {
		one, rest, ok := x.cut(n)
		if !ok {
			return nil, "", false
		}
		all, x = append(all, one), rest
	}
	return all, x, true
}

// unpacked is the row with which x begins, how many bits it has, and whether
// there is one. It asks each number by itself, as it comes.
func (x text) unpacked() ([]api.Command, int, bool) {
	begin, rest, ok := x.cuts(3, 32)
	if !ok || begin[1] < 1 || begin[1]+begin[0] > 1<<31 {
		return nil, 0, false
	}
	var l []api.Command
	for i := range begin[0] + 1 {
		var ways, view []int64
		ways, rest, ok = rest.cuts(8, 8, 1)
		if !ok || ways[0] > 254 || ways[1] > 254 {
			return nil, 0, false
		}
		c := api.Command{Number: uint32(begin[1] + i), MX: int8(ways[0] - 127), MY: int8(ways[1] - 127)}
		if ways[2] == 1 {
			view, rest, ok = rest.cuts(32, 8)
			if !ok || view[0] > 1<<31 {
				return nil, 0, false
			}
			c.Fire, c.View, c.Frac = true, uint32(view[0]), uint8(view[1])
		}
		l = append(l, c)
	}
	return l, len(x) - len(rest), true
}

// rule is a fixed line of numbers that look like chance.
type rule uint64

func (r *rule) word() uint64 {
	return r.half()<<32 | r.half()
}

func (r *rule) half() uint64 {
	*r = *r*6364136223846793005 + 1442695040888963407
	return uint64(*r) >> 32
}

func (r *rule) below(n int) int { return int(r.half() % uint64(n)) }

func (r *rule) bytes(n int) []byte {
	b := make([]byte, n)
	for i := range b {
		b[i] = byte(r.half() >> 24)
	}
	return b
}

// way is a number of -127 to 127, often one of the edges.
func (r *rule) way() int8 {
	edges := []int8{-127, -126, -1, 0, 1, 126, 127}
	if r.below(2) == 0 {
		return edges[r.below(len(edges))]
	}
	return int8(r.below(255) - 127)
}

// row is a row of n commands, some of which fire.
func (r *rule) row(first uint32, n int) []api.Command {
	var l []api.Command
	for i := range n {
		c := api.Command{Number: first + uint32(i), MX: r.way(), MY: r.way()}
		if r.below(2) == 0 {
			views := []uint32{0, 1, 1<<31 - 1, 1 << 31, uint32(r.below(1<<31 + 1))}
			fracs := []uint8{0, 1, 127, 128, 255, uint8(r.below(256))}
			c.Fire, c.View, c.Frac = true, views[r.below(len(views))], fracs[r.below(len(fracs))]
		}
		l = append(l, c)
	}
	return l
}

// rows are rows of each length, with first numbers from one edge to the other.
func rows() [][]api.Command {
	r := rule(91)
	var all [][]api.Command
	for n := 1; n <= api.MaxCommands; n++ {
		last := uint32(1<<31 - n + 1)
		firsts := []uint32{1, 2, 255, 256, 1<<16 - 3, 1<<24 - 1, 1 << 30, last - 1, last}
		for _, first := range append(firsts, 1+uint32(r.below(1<<31-n+1))) {
			all = append(all, r.row(first, n), r.row(first, n))
		}
		// None fires, and all do.
		still, firing := r.row(9, n), r.row(9, n)
		for i := range n {
			still[i].Fire, still[i].View, still[i].Frac = false, 0, 0
			firing[i].Fire = true
		}
		all = append(all, still, firing)
	}
	return all
}

func checkWriter(t *testing.T, w *bits.Writer, want text) {
	t.Helper()
	if got := w.Count(); got != len(want) {
		t.Fatalf("%d bits are put, not %d", got, len(want))
	}
	if got := w.Bytes(); !bytes.Equal(got, want.bytes()) {
		t.Fatalf("%v is put, not %v", got, want.bytes())
	}
}

// checkTaken takes a row that must come next, and asks where the reader is then.
func checkTaken(t *testing.T, r *bits.Reader, want []api.Command) {
	t.Helper()
	left := r.Left()
	got, ok := Take(r)
	if !ok || !slices.Equal(got, want) {
		t.Fatalf("%v, %v is taken, not %v", got, ok, want)
	}
	if !r.OK() || left-r.Left() != len(packed(want)) {
		t.Fatalf("of %d bits %d are taken, not %d; %v", left, left-r.Left(), len(packed(want)), r.OK())
	}
}

func checkNoneTaken(t *testing.T, r *bits.Reader) {
	t.Helper()
	if got, ok := Take(r); ok || len(got) != 0 {
		t.Fatalf("%v, %v is taken", got, ok)
	}
}

// A reference that is wrong by itself would hide what it should show.
func TestTheTextsThemselves(t *testing.T) {
	if got := plain("101 1"); got != "1011" || got.bytes()[0] != 13 || textOf([]byte{13}) != "10110000" {
		t.Errorf("5 and 1 make %s, %v", got, got.bytes())
	}
	for _, l := range rows() {
		x := packed(l)
		if got, count, ok := (x + "1").unpacked(); !slices.Equal(got, l) || count != len(x) || !ok {
			t.Errorf("%v is %v, of %d bits, %v", l, got, count, ok)
		}
	}
}
