package command

import (
	"bytes"
	"slices"
	"testing"

	"ricochet/api"
	"ricochet/bits"
)

// written are rows with their bits: how many, less 1; the first number; then of
// each MX and MY with 127 laid on, whether it fires, and if so View and Frac.
func written() []struct {
	l    []api.Command
	bits text
} {
	return []struct {
		l    []api.Command
		bits text
	}{
		{
			[]api.Command{{Number: 1}},
			"000 10000000000000000000000000000000 11111110 11111110 0",
		},
		{
			[]api.Command{{Number: 1 << 31, MX: -127, MY: 127}},
			"000 00000000000000000000000000000001 00000000 01111111 0",
		},
		{
			[]api.Command{{Number: 2, MX: 1, MY: -1}},
			"000 01000000000000000000000000000000 00000001 01111110 0",
		},
		{
			[]api.Command{{Number: 3, MX: 127, MY: -126, Fire: true}},
			"000 11000000000000000000000000000000 01111111 10000000 1 00000000000000000000000000000000 00000000",
		},
		{
			[]api.Command{{Number: 1, Fire: true, View: 1 << 31, Frac: 255}},
			"000 10000000000000000000000000000000 11111110 11111110 1 00000000000000000000000000000001 11111111",
		},
		{
			[]api.Command{{Number: 5, MX: -127, MY: 3}, {Number: 6, Fire: true, View: 9, Frac: 128}},
			"100 10100000000000000000000000000000 00000000 01000001 0 11111110 11111110 1 10010000000000000000000000000000 00000001",
		},
		{
			[]api.Command{
				{Number: 256, Fire: true, View: 1, Frac: 2},
				{Number: 257, MX: 2, MY: -2},
				{Number: 258, MX: -3, MY: 64, Fire: true, View: 1<<31 - 1, Frac: 1},
			},
			"010 00000000100000000000000000000000" +
				" 11111110 11111110 1 10000000000000000000000000000000 01000000" +
				" 10000001 10111110 0" +
				" 00111110 11111101 1 11111111111111111111111111111110 10000000",
		},
		{
			[]api.Command{{Number: 4}, {Number: 5}, {Number: 6}, {Number: 7}, {Number: 8}, {Number: 9}, {Number: 10}, {Number: 11, MX: -1}},
			"111 00100000000000000000000000000000" +
				" 11111110 11111110 0 11111110 11111110 0 11111110 11111110 0 11111110 11111110 0" +
				" 11111110 11111110 0 11111110 11111110 0 11111110 11111110 0 01111110 11111110 0",
		},
	}
}

func TestPutWrittenOut(t *testing.T) {
	for _, c := range written() {
		var w bits.Writer
		if !Put(&w, c.l) {
			t.Errorf("%v isn't put", c.l)
		}
		checkWriter(t, &w, plain(c.bits))
	}
}

// The bytes of two rows, written out.
func TestPutMakesTheseBytes(t *testing.T) {
	var w bits.Writer
	Put(&w, []api.Command{{Number: 1}})
	if got, want := w.Bytes(), []byte{8, 0, 0, 0, 248, 251, 3}; !bytes.Equal(got, want) {
		t.Errorf("%v, not %v", got, want)
	}
	var other bits.Writer
	Put(&other, []api.Command{{Number: 5, MX: -127, MY: 3}, {Number: 6, Fire: true, View: 9, Frac: 128}})
	if got, want := other.Bytes(), []byte{41, 0, 0, 0, 0, 16, 244, 247, 55, 1, 0, 0, 0, 16}; !bytes.Equal(got, want) {
		t.Errorf("%v, not %v", got, want)
	}
}

// One takes 3 + 32 + 17 bits if it doesn't fire, each further one 17; of those
// that fire each takes 40 more.
func TestPutCountsItsBits(t *testing.T) {
	for n := 1; n <= api.MaxCommands; n++ {
		for firing := range n + 1 {
			l := from(1, n)
			for i := range firing {
				l[n-1-i].Fire = true
			}
			var w bits.Writer
			if !Put(&w, l) || w.Count() != 3+32+17*n+40*firing {
				t.Errorf("%d of which %d fire: %d bits", n, firing, w.Count())
			}
		}
	}
}

func TestPutOfAllWays(t *testing.T) {
	for x := -127; x <= 127; x++ {
		for _, y := range []int{-127, -126, -1, 0, 1, 126, 127} {
			for _, l := range [][]api.Command{
				{{Number: 1, MX: int8(x), MY: int8(y)}},
				{{Number: 1, MX: int8(y), MY: int8(x), Fire: true}},
			} {
				var w bits.Writer
				if !Put(&w, l) {
					t.Fatalf("%v isn't put", l)
				}
				checkWriter(t, &w, packed(l))
			}
		}
	}
}

func TestPutBehindOtherBits(t *testing.T) {
	r := rule(92)
	for _, l := range rows() {
		for ahead := range 10 {
			x := r.word()
			var w bits.Writer
			w.Put(x, ahead)
			if !Put(&w, l) {
				t.Fatalf("%v isn't put", l)
			}
			w.Put(1, 1)
			checkWriter(t, &w, number(x, ahead)+packed(l)+"1")
		}
	}
}

func TestPutOneBehindTheOther(t *testing.T) {
	var w bits.Writer
	var want text
	for _, l := range rows() {
		Put(&w, l)
		want += packed(l)
	}
	checkWriter(t, &w, want)
}

func TestOfNoRowNothingIsPut(t *testing.T) {
	lists := noRows()
	for at := range api.MaxCommands {
		for i, c := range unformed(api.Command{Number: 5 + uint32(at)}) {
			l := from(5, api.MaxCommands)
			l[at] = c
			lists[string(number(uint64(at), 4)+number(uint64(i), 4))+": an unformed one"] = l
		}
	}
	for name, l := range lists {
		for _, ahead := range []text{"", "1", "10101", "11111111", "0000000000001"} {
			var w bits.Writer
			for _, bit := range ahead {
				w.Put(uint64(bit-'0'), 1)
			}
			if Put(&w, l) {
				t.Fatalf("%s is put", name)
			}
			checkWriter(t, &w, ahead)
			// The writer goes on as though nothing had been.
			Put(&w, from(3, 2))
			checkWriter(t, &w, ahead+packed(from(3, 2)))
		}
	}
}

func TestPutToNoWriter(t *testing.T) {
	for _, l := range rows() {
		if !Put(nil, l) {
			t.Errorf("%v is a row, without a writer too", l)
		}
	}
	for name, l := range noRows() {
		if Put(nil, l) {
			t.Errorf("%s is no row, without a writer neither", name)
		}
	}
}

// What is handed in stays as it is, its spare room too, and isn't kept.
func TestPutLeavesItsList(t *testing.T) {
	all := append(from(1, 4), api.Command{MX: -128}, api.Command{Number: 77})
	held := slices.Clone(all)
	var w bits.Writer
	if !Put(&w, all[:4]) || Put(&w, all) {
		t.Error("the list isn't put as it is")
	}
	if !slices.Equal(all, held) {
		t.Errorf("the list is %v now", all)
	}
	clear(all)
	checkWriter(t, &w, packed(held[:4]))
}
