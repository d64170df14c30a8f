package bits

import (
	"bytes"
	"math"
	"slices"
	"strings"
	"testing"
)

func checkWriter(t *testing.T, w *Writer, want row) {
	t.Helper()
	if got := w.Count(); got != len(want) {
		t.Fatalf("Count = %d, not %d", got, len(want))
	}
	if got := w.Bytes(); !bytes.Equal(got, want.bytes()) {
		t.Fatalf("Bytes = %v, not %v", got, want.bytes())
	}
}

func TestAZeroWriterHasNoBits(t *testing.T) {
	var w Writer
	checkWriter(t, &w, "")
	checkWriter(t, &Writer{}, "")
	checkWriter(t, new(Writer), "")
	w.Put(math.MaxUint64, 0)
	checkWriter(t, &w, "")
	w.Put(1, 1)
	checkWriter(t, &w, "1")
}

func TestPutByHand(t *testing.T) {
	type put struct {
		x uint64
		n int
	}
	cases := []struct {
		name  string
		puts  []put
		want  []byte
		count int
	}{
		{"the example", []put{{5, 3}, {1, 1}}, []byte{13}, 4},
		{"one bit, 0", []put{{0, 1}}, []byte{0}, 1},
		{"one bit, 1", []put{{1, 1}}, []byte{1}, 1},
		{"one bit of 2", []put{{2, 1}}, []byte{0}, 1},
		{"one bit of 3", []put{{3, 1}}, []byte{1}, 1},
		{"three bits of all", []put{{math.MaxUint64, 3}}, []byte{7}, 3},
		{"bits above don't spoil what comes", []put{{0xff, 3}, {0, 4}, {1, 1}}, []byte{0x87}, 8},
		{"no bits between", []put{{5, 3}, {255, 0}, {1, 1}}, []byte{13}, 4},
		{"a whole byte", []put{{200, 8}}, []byte{200}, 8},
		{"a byte and a bit", []put{{0x1ff, 9}}, []byte{255, 1}, 9},
		{"a byte and a bit, 0", []put{{0xff, 9}}, []byte{255, 0}, 9},
		{"two bytes, the lowest one first", []put{{0x1234, 16}}, []byte{0x34, 0x12}, 16},
		{"across bytes", []put{{1, 4}, {0x1234, 16}}, []byte{0x41, 0x23, 0x01}, 20},
		{"63 bits of all", []put{{math.MaxUint64, 63}}, []byte{255, 255, 255, 255, 255, 255, 255, 127}, 63},
		{"64 bits of all", []put{{math.MaxUint64, 64}}, []byte{255, 255, 255, 255, 255, 255, 255, 255}, 64},
		{"64 bits", []put{{0x0807060504030201, 64}}, []byte{1, 2, 3, 4, 5, 6, 7, 8}, 64},
		{"the highest of 64 alone", []put{{1 << 63, 64}}, []byte{0, 0, 0, 0, 0, 0, 0, 128}, 64},
		{"the highest of 64 isn't one of 63", []put{{1 << 63, 63}}, []byte{0, 0, 0, 0, 0, 0, 0, 0}, 63},
		{"64 bits behind one", []put{{1, 1}, {math.MaxUint64, 64}}, []byte{255, 255, 255, 255, 255, 255, 255, 255, 1}, 65},
	}
	for _, c := range cases {
		var w Writer
		for _, p := range c.puts {
			w.Put(p.x, p.n)
		}
		if got := w.Bytes(); !bytes.Equal(got, c.want) || w.Count() != c.count {
			t.Errorf("%s: %v, %d bits", c.name, got, w.Count())
		}
	}
}

func TestPutOfAnotherWidthPutsNothing(t *testing.T) {
	for _, n := range []int{-1, -2, -8, -63, -64, -65, math.MinInt32, math.MinInt64, 65, 66, 72, 128, 256, 320, math.MaxInt32, math.MaxInt64} {
		for _, begun := range []row{"", "101", "11111111", "000000001"} {
			var w Writer
			w.Put(begun.number().Uint64(), len(begun))
			w.Put(math.MaxUint64, n)
			checkWriter(t, &w, begun)
			w.Put(1, 1)
			checkWriter(t, &w, begun+"1")
		}
	}
}

func TestPutOfEachWidthAtEachPlace(t *testing.T) {
	for _, x := range numbers() {
		for n := range 65 {
			for ahead := range 9 {
				var w Writer
				w.Put(0x55, ahead)
				w.Put(x, n)
				w.Put(1, 1)
				checkWriter(t, &w, rowOf(0x55, ahead)+rowOf(x, n)+"1")
			}
		}
	}
}

func TestSmallByHand(t *testing.T) {
	nines := bytes.Repeat([]byte{255}, 9)
	cases := []struct {
		x    int64
		want []byte
	}{
		{0, []byte{0}},
		{-1, []byte{2}},
		{1, []byte{4}},
		{-2, []byte{6}},
		{2, []byte{8}},
		{-3, []byte{10}},
		{63, []byte{252}},
		{-64, []byte{254}},
		{64, []byte{1, 2}},
		{-65, []byte{3, 2}},
		{127, []byte{253, 2}},
		{8191, []byte{253, 254}},
		{-8192, []byte{255, 254}},
		{8192, []byte{1, 1, 2}},
		{-8193, []byte{3, 1, 2}},
		{1<<62 - 1, append(append([]byte{253}, nines[:7]...), 254)},
		{-1 << 62, append(slices.Clone(nines[:8]), 254)},
		{1 << 62, []byte{1, 1, 1, 1, 1, 1, 1, 1, 1, 2}},
		{-1<<62 - 1, []byte{3, 1, 1, 1, 1, 1, 1, 1, 1, 2}},
		{math.MaxInt64, append(append([]byte{253}, nines[:8]...), 2)},
		{math.MinInt64, append(slices.Clone(nines), 2)},
	}
	for _, c := range cases {
		var w Writer
		w.Small(c.x)
		if got := w.Bytes(); !bytes.Equal(got, c.want) || w.Count() != 8*len(c.want) {
			t.Errorf("Small(%d): %v, %d bits", c.x, got, w.Count())
		}
	}
}

func TestSmallAtEachPlace(t *testing.T) {
	for _, x := range smalls() {
		for ahead := range 9 {
			var w Writer
			w.Put(0x55, ahead)
			w.Small(x)
			w.Put(1, 1)
			checkWriter(t, &w, rowOf(0x55, ahead)+smallRow(x)+"1")
		}
	}
}

func TestSmallIsAtMostTenTimesEightBits(t *testing.T) {
	r := rule(61)
	for _, x := range append(smalls(), int64(r.word()), int64(r.word())) {
		var w Writer
		w.Small(x)
		b := w.Bytes()
		if w.Count() > 80 || w.Count()%8 != 0 || w.Count() != 8*len(b) {
			t.Errorf("Small(%d) has %d bits", x, w.Count())
		}
		if len(b) == 10 && b[9] != 2 {
			t.Errorf("Small(%d) ends with %d", x, b[9])
		}
	}
}

// What is answered is new memory: neither goes a change of it to the writer, nor
// what is put later to it.
func TestBytesAreNewMemory(t *testing.T) {
	var w Writer
	w.Put(0x1234, 13)
	first, second := w.Bytes(), w.Bytes()
	first[0], first[1] = 0xff, 0xff
	_ = append(first, 0xff)
	_ = append(second[:1], 0xff)
	checkWriter(t, &w, rowOf(0x1234, 13))
	held := w.Bytes()
	w.Put(7, 3)
	w.Small(-3)
	if !bytes.Equal(held, rowOf(0x1234, 13).bytes()) {
		t.Errorf("what was answered is %v now", held)
	}
	checkWriter(t, &w, rowOf(0x1234, 13)+"111"+smallRow(-3))
}

func TestTwoWritersDoNotHangOnOneAnother(t *testing.T) {
	var a, b Writer
	for i := range 100 {
		a.Put(1, 1)
		b.Put(0, 1)
		if i%3 == 0 {
			b.Put(0, 1)
		}
	}
	checkWriter(t, &a, row(strings.Repeat("1", 100)))
	checkWriter(t, &b, row(strings.Repeat("0", 134)))
}

func TestANilWriterDoesNothing(t *testing.T) {
	var w *Writer
	for _, n := range []int{math.MinInt64, -1, 0, 1, 8, 64, 65, math.MaxInt64} {
		w.Put(math.MaxUint64, n)
	}
	for _, x := range []int64{0, -3, math.MaxInt64, math.MinInt64} {
		w.Small(x)
	}
	if got := w.Bytes(); len(got) != 0 {
		t.Errorf("Bytes = %v", got)
	}
	if got := w.Count(); got != 0 {
		t.Errorf("Count = %d", got)
	}
}
