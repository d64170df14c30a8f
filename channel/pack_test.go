package channel

import (
	"bytes"
	"math"
	"strings"
	"testing"

	"ricochet/bits"
)

// headers are such as a channel sends.
func headers() []Header {
	var all []Header
	edges := []uint16{0, 1, 2, 255, 256, 0x1234, 0x5555, 32767, 32768, 65534, 65535}
	for _, n := range edges {
		all = append(all, bare(n))
		for _, ack := range edges {
			for _, mask := range []uint32{0, 1, 0x80000000, 0x12345678, 0xaaaaaaaa, 0x7fffffff, 0xffffffff} {
				all = append(all, telling(n, ack, mask))
			}
		}
	}
	for i := range 32 {
		all = append(all, telling(uint16(1)<<(i%16), ^(uint16(1)<<(i%16)), 1<<i))
	}
	return all
}

// unformed are headers that tell of what came, though nothing did.
func unformed() []Header {
	all := []Header{
		{Ack: 1, Mask: 1},
		{Number: 65535, Ack: 65535, Mask: math.MaxUint32},
		{Number: 5, Ack: 9, Mask: 3},
	}
	for i := range 32 {
		all = append(all, Header{Mask: 1 << i}, Header{Number: 77, Mask: 1 << i})
	}
	for i := range 16 {
		all = append(all, Header{Ack: 1 << i}, Header{Number: 77, Ack: 1 << i})
	}
	return all
}

// writtenOut are headers with their bits: Number, Any, Ack, Mask.
func writtenOut() []struct {
	h    Header
	bits spelt
} {
	return []struct {
		h    Header
		bits spelt
	}{
		{Header{}, "0000000000000000 0 0000000000000000 00000000000000000000000000000000"},
		{bare(1), "1000000000000000 0 0000000000000000 00000000000000000000000000000000"},
		{bare(65535), "1111111111111111 0 0000000000000000 00000000000000000000000000000000"},
		{telling(0, 0, 0), "0000000000000000 1 0000000000000000 00000000000000000000000000000000"},
		{telling(0, 1, 0), "0000000000000000 1 1000000000000000 00000000000000000000000000000000"},
		{telling(0, 0, 1), "0000000000000000 1 0000000000000000 10000000000000000000000000000000"},
		{telling(5, 9, 3), "1010000000000000 1 1001000000000000 11000000000000000000000000000000"},
		{telling(32768, 0, 0), "0000000000000001 1 0000000000000000 00000000000000000000000000000000"},
		{telling(0, 32768, 0), "0000000000000000 1 0000000000000001 00000000000000000000000000000000"},
		{telling(0, 0, 1<<31), "0000000000000000 1 0000000000000000 00000000000000000000000000000001"},
		{telling(256, 2, 65536), "0000000010000000 1 0100000000000000 00000000000000001000000000000000"},
		{telling(65535, 65535, math.MaxUint32), "1111111111111111 1 1111111111111111 11111111111111111111111111111111"},
	}
}

func TestPutWrittenOut(t *testing.T) {
	for _, x := range writtenOut() {
		var w bits.Writer
		Put(&w, x.h)
		checkPut(t, &w, plain(x.bits))
	}
}

// 5 and 9, which is doubled for the bit ahead of it, that is 1; so is 3.
func TestPutMakesTheseBytes(t *testing.T) {
	var w bits.Writer
	Put(&w, telling(5, 9, 3))
	if got, want := w.Bytes(), []byte{5, 0, 19, 0, 6, 0, 0, 0, 0}; !bytes.Equal(got, want) || w.Count() != 65 {
		t.Errorf("%v, of %d bits, not %v", got, w.Count(), want)
	}
	var other bits.Writer
	Put(&other, telling(0x1234, 0x8001, 0x80000001))
	if got, want := other.Bytes(), []byte{0x34, 0x12, 3, 0, 3, 0, 0, 0, 1}; !bytes.Equal(got, want) || other.Count() != 65 {
		t.Errorf("%v, of %d bits, not %v", got, other.Count(), want)
	}
}

// Its bits are put whatever it tells; it is Read that asks.
func TestPutOfUnformedHeaders(t *testing.T) {
	for _, h := range unformed() {
		var w bits.Writer
		Put(&w, h)
		checkPut(t, &w, spellHeader(h))
	}
}

func TestPutBehindOtherBits(t *testing.T) {
	var all bits.Writer
	var want spelt
	for _, h := range append(headers(), unformed()...) {
		for _, ahead := range []spelt{"", "1", "0", "1010101", "11111111", "000000001"} {
			var w bits.Writer
			w.Put(ahead.value(), len(ahead))
			Put(&w, h)
			w.Put(1, 1)
			checkPut(t, &w, ahead+spellHeader(h)+"1")
		}
		Put(&all, h)
		want += spellHeader(h)
	}
	checkPut(t, &all, want)
}

func TestPutToNoWriter(t *testing.T) {
	for _, h := range append(headers(), unformed()...) {
		Put(nil, h)
	}
}

func TestReadWrittenOut(t *testing.T) {
	for _, x := range writtenOut() {
		checkRead(t, bits.New(plain(x.bits).bytes()), x.h)
	}
	r := bits.New([]byte{5, 0, 19, 0, 6, 0, 0, 0, 0xfe})
	checkRead(t, r, telling(5, 9, 3))
	if got := r.Take(7); got != 127 {
		t.Errorf("behind the header comes %d", got)
	}
}

func TestWhatIsPutIsRead(t *testing.T) {
	var w bits.Writer
	for _, h := range headers() {
		Put(&w, h)
	}
	r := bits.New(w.Bytes())
	for _, h := range headers() {
		checkRead(t, r, h)
	}
	if !r.Done() {
		t.Errorf("%d bits are left", r.Left())
	}
}

func TestReadBehindOtherBits(t *testing.T) {
	for _, h := range headers() {
		for ahead := range 10 {
			x := spelt(strings.Repeat("1", ahead)) + spellHeader(h) + "1"
			r := bits.New(x.bytes())
			r.Take(ahead)
			checkRead(t, r, h)
			if got := r.Take(1); got != 1 {
				t.Fatalf("behind %v comes %d", h, got)
			}
		}
	}
}

// With Any 0 each bit of Ack and Mask, that is 1, makes it none; with Any 1 none
// of them does.
func TestReadOfUnformedHeaders(t *testing.T) {
	for _, h := range unformed() {
		for _, more := range []spelt{"", "1", "1111111111"} {
			checkNoneRead(t, bits.New((spellHeader(h) + more).bytes()))
		}
		h.Any = true
		checkRead(t, bits.New(spellHeader(h).bytes()), h)
		checkRead(t, bits.New(spellHeader(bare(h.Number)).bytes()), bare(h.Number))
	}
}

// The bytes end with the header's last bit, or at any place ahead of it.
func TestReadWhereTheBytesEnd(t *testing.T) {
	for _, h := range headers() {
		x := spellHeader(h)
		for missing := range 66 {
			// So many bits come ahead that what is there ends with a byte.
			there := x[:65-missing]
			ahead := (8 - len(there)%8) % 8
			r := bits.New((spelt(strings.Repeat("1", ahead)) + there).bytes())
			r.Take(ahead)
			if r.Left() != len(there) {
				t.Fatalf("%d bits are there, not %d", r.Left(), len(there))
			}
			if missing > 0 {
				checkNoneRead(t, r)
				continue
			}
			checkRead(t, r, h)
			if r.Left() != 0 {
				t.Fatalf("%d bits are left", r.Left())
			}
		}
	}
}

func TestReadOfNoReader(t *testing.T) {
	checkNoneRead(t, nil)
	checkNoneRead(t, &bits.Reader{})
	checkNoneRead(t, bits.New(nil))
	checkNoneRead(t, bits.New([]byte{}))
}

// A reader that has failed gives nothing, though a header comes next.
func TestReadOfAReaderThatHasFailed(t *testing.T) {
	for _, h := range headers() {
		r := bits.New(spellHeader(h).bytes())
		r.Take(-1)
		left := r.Left()
		for range 3 {
			checkNoneRead(t, r)
			if r.OK() || r.Left() != left {
				t.Fatalf("the reader tells %v, %d left of %d", r.OK(), r.Left(), left)
			}
		}
		behind := bits.New((spellHeader(h) + spellHeader(h)).bytes())
		checkRead(t, behind, h)
		behind.Take(65)
		behind.Take(65)
		checkNoneRead(t, behind)
	}
}

// Headers of all kinds, with some bits behind them, and cut off anywhere.
func TestReadOfManyBytes(t *testing.T) {
	l := luck(141)
	read := 0
	for range 20000 {
		h := Header{Number: uint16(l.below(65536)), Any: l.below(2) == 0}
		if l.below(2) == 0 {
			h.Ack = uint16(l.below(65536))
		}
		if l.below(2) == 0 {
			h.Mask = l.mask()
		}
		x := spellHeader(h) + spell(uint64(l.below(128)), 7)
		if l.below(3) == 0 {
			x = x[:8*l.below(9)]
		}
		want, ok := x.header()
		if !ok {
			checkNoneRead(t, bits.New(x.bytes()))
			continue
		}
		read++
		checkRead(t, bits.New(x.bytes()), want)
	}
	// Were it nearly all or nearly none, little would be asked.
	if read < 4000 || read > 16000 {
		t.Errorf("%d of 20000 are headers", read)
	}
}
