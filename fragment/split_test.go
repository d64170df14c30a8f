package fragment

import (
	"bytes"
	"slices"
	"testing"

	"ricochet/api"
)

func TestSplitWrittenOut(t *testing.T) {
	sevens := bytes.Repeat([]byte{7}, 300)
	eights := bytes.Repeat([]byte{8}, 300)
	cases := []struct {
		name string
		id   uint16
		b    []byte
		want [][]byte
	}{
		{"one byte", 0, []byte{7}, [][]byte{{0, 0, 0, 7}}},
		{"one byte, 0", 1, []byte{0}, [][]byte{{1, 0, 0, 0}}},
		{"two bytes, the greatest id", 65535, []byte{1, 255}, [][]byte{{255, 255, 0, 1, 255}}},
		{"the id's lower byte is first", 0x1234, []byte{9}, [][]byte{{0x34, 0x12, 0, 9}}},
		{"the id's upper byte alone", 0x8000, []byte{1, 2, 4, 8, 16, 32, 64, 128}, [][]byte{{0, 128, 0, 1, 2, 4, 8, 16, 32, 64, 128}}},
		{"a full part", 5, sevens, [][]byte{append([]byte{5, 0, 0}, sevens...)}},
		{"a full part, and a byte", 256, append(slices.Clone(sevens), 9), [][]byte{append([]byte{0, 1, 1}, sevens...), {0, 1, 0x11, 9}}},
		{"two full parts", 6, append(slices.Clone(sevens), eights...), [][]byte{append([]byte{6, 0, 1}, sevens...), append([]byte{6, 0, 0x11}, eights...)}},
		{"two full parts, and two bytes", 7, slices.Concat(sevens, eights, []byte{3, 4}), [][]byte{append([]byte{7, 0, 2}, sevens...), append([]byte{7, 0, 0x12}, eights...), {7, 0, 0x22, 3, 4}}},
	}
	for _, x := range cases {
		t.Run(x.name, func(t *testing.T) { checkSplit(t, x.id, x.b, x.want) })
	}
}

// Of 14 parts the third bytes tell 13, and each its place.
func TestSplitOfTheLongest(t *testing.T) {
	b := text(4000, 3)
	thirds := []byte{0x0d, 0x1d, 0x2d, 0x3d, 0x4d, 0x5d, 0x6d, 0x7d, 0x8d, 0x9d, 0xad, 0xbd, 0xcd, 0xdd}
	got, e := Split(0xabcd, b)
	if len(got) != 14 || e != api.OK {
		t.Fatalf("%d parts, %v", len(got), e)
	}
	for i, part := range got {
		want := append([]byte{0xcd, 0xab, thirds[i]}, b[300*i:min(300*i+300, 4000)]...)
		if !bytes.Equal(part, want) {
			t.Errorf("the part %d is %s, not %s", i, brief(part), brief(want))
		}
	}
}

func TestSplitMakesPartsOfTheseLengths(t *testing.T) {
	full := func(n int, more ...int) []int {
		return append(slices.Repeat([]int{303}, n), more...)
	}
	cases := []struct {
		n    int
		want []int
	}{
		{1, []int{4}}, {2, []int{5}}, {299, []int{302}}, {300, full(1)}, {301, full(1, 4)},
		{599, full(1, 302)}, {600, full(2)}, {601, full(2, 4)}, {900, full(3)}, {901, full(3, 4)},
		{3599, full(11, 302)}, {3600, full(12)}, {3601, full(12, 4)}, {3899, full(12, 302)},
		{3900, full(13)}, {3901, full(13, 4)}, {3999, full(13, 102)}, {4000, full(13, 103)},
	}
	for _, x := range cases {
		got, e := Split(1, make([]byte, x.n))
		var lengths []int
		for _, part := range got {
			lengths = append(lengths, len(part))
		}
		if e != api.OK || !slices.Equal(lengths, x.want) {
			t.Errorf("of %d bytes parts of %v bytes, %v, not %v", x.n, lengths, e, x.want)
		}
	}
}

func TestSplitOfManyLengths(t *testing.T) {
	for n := 1; n <= 4000; n++ {
		// All lengths near those at which a part more begins, few others.
		if off := n % 300; off > 3 && off < 297 && n%11 != 0 {
			continue
		}
		id := uint16(n * 37)
		b := text(n, luck(n))
		checkSplit(t, id, b, cut(id, b))
	}
	for n := 3990; n <= 4000; n++ {
		for _, fill := range []byte{0, 255} {
			b := bytes.Repeat([]byte{fill}, n)
			checkSplit(t, 9, b, cut(9, b))
		}
	}
}

func TestSplitWithEachId(t *testing.T) {
	b := []byte{0x5a, 0xa5}
	for id := range 65536 {
		checkSplit(t, uint16(id), b, [][]byte{{byte(id % 256), byte(id / 256), 0, 0x5a, 0xa5}})
	}
	long := text(700, 4)
	for _, id := range []uint16{0, 1, 255, 256, 32767, 32768, 65280, 65535} {
		checkSplit(t, id, long, cut(id, long))
	}
}

func TestSplitRefuses(t *testing.T) {
	for _, id := range []uint16{0, 9, 65535} {
		for _, b := range [][]byte{nil, {}, make([]byte, 0, 8), []byte{1, 2}[:0]} {
			if got, e := Split(id, b); e != api.ErrArg || len(got) != 0 {
				t.Errorf("of no bytes: %d parts, %v", len(got), e)
			}
		}
		for _, n := range []int{4001, 4002, 4100, 4199, 4200, 4201, 4500, 4800, 4801, 5000, 65536, 1 << 20} {
			if got, e := Split(id, make([]byte, n)); e != api.ErrLong || len(got) != 0 {
				t.Errorf("of %d bytes: %d parts, %v", n, len(got), e)
			}
		}
		// How many bytes count, not how much room there is.
		b := make([]byte, 10000)
		checkSplit(t, id, b[5000:5001], cut(id, b[:1]))
		checkSplit(t, id, b[:4000], cut(id, b[:4000]))
	}
}
