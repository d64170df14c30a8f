package frame

import (
	"bytes"
	"encoding/binary"
	"testing"

	"ricochet/api"
)

// payloads are of all zeros, of all ones and mixed, from none on to the longest.
func payloads() [][]byte {
	all := [][]byte{nil}
	r := rule(73)
	for _, n := range []int{1, 2, 3, 4, 5, 7, 8, 9, 60, 300, 1399, api.MaxFrame} {
		all = append(all, make([]byte, n), bytes.Repeat([]byte{255}, n), r.bytes(n))
	}
	return all
}

// places are where so many bytes side by side can stand from one place on to
// another: at the beginning, in the middle and at the end, and one off each.
func places(from, to, width int) []int {
	var all []int
	last := to - width
	middle := (from + last) / 2
	for _, at := range []int{from, from + 1, from + 2, middle, middle + 1, last - 2, last - 1, last} {
		if from <= at && at <= last {
			all = append(all, at)
		}
	}
	return all
}

// laid is b with the bytes of change laid over it from at on.
func laid(b []byte, at int, change ...byte) []byte {
	all := bytes.Clone(b)
	for i, one := range change {
		all[at+i] ^= one
	}
	return all
}

func TestWhatIsWrappedIsOpened(t *testing.T) {
	r := rule(74)
	for _, payload := range payloads() {
		for _, key := range append(keys, r.word(), r.word()) {
			checkOpened(t, key, mustWrap(t, key, payload), payload)
		}
	}
}

// A datagram may be a payload as well, and is opened from the outside in.
func TestWrappedTwice(t *testing.T) {
	inner := mustWrap(t, 1, []byte("abc"))
	outer := mustWrap(t, 2, inner)
	checkOpened(t, 2, outer, inner)
	checkRefused(t, 1, outer, api.ErrSum)
	checkOpened(t, 1, inner, []byte("abc"))
}

func TestAnotherKeyOpensNothing(t *testing.T) {
	r := rule(75)
	for _, payload := range payloads() {
		for _, key := range keys {
			b := mustWrap(t, key, payload)
			for i := range 32 {
				checkRefused(t, key^1<<i, b, api.ErrSum)
			}
			for _, other := range append(keys, key+1, key-1, ^key, r.word(), r.word()) {
				if other != key {
					checkRefused(t, other, b, api.ErrSum)
				}
			}
		}
	}
}

// What a change of the key does to the sum is what its bits do, laid over one
// another; each of the 32 does what the others can't, so that no other key does
// the same as this one.
func TestAll32BitsOfTheKeyCount(t *testing.T) {
	r := rule(76)
	for _, payload := range payloads() {
		for _, key := range keys {
			sum := sumOf(t, key, payload)
			does := make([]uint32, 32)
			for i := range does {
				does[i] = sum ^ sumOf(t, key^1<<i, payload)
			}
			other, want := r.word(), sum
			for i, one := range does {
				if (key^other)>>i&1 == 1 {
					want ^= one
				}
			}
			if got := sumOf(t, other, payload); got != want {
				t.Fatalf("%d bytes: the sum of the key %x is %08x, and bit by bit %08x", len(payload), other, got, want)
			}
			if got := spans(does); got != 32 {
				t.Fatalf("%d bytes: only %d bits of the key count", len(payload), got)
			}
		}
	}
}

func sumOf(t *testing.T, key uint32, payload []byte) uint32 {
	t.Helper()
	return binary.LittleEndian.Uint32(mustWrap(t, key, payload))
}

// spans counts how many of the words can't be made of the others by exclusive or.
func spans(words []uint32) int {
	count := 0
	for bit := uint32(1); bit != 0; bit *= 2 {
		at := -1
		for i, word := range words {
			if word&bit != 0 {
				at = i
			}
		}
		if at < 0 {
			continue
		}
		count++
		pivot := words[at]
		for i := range words {
			if words[i]&bit != 0 {
				words[i] ^= pivot
			}
		}
	}
	return count
}

// Up to four bytes side by side of the sum, or of the payload, are others.
func TestSpoiledDatagramsAreNotOpened(t *testing.T) {
	r := rule(77)
	for _, payload := range payloads() {
		for _, key := range keys[:4] {
			b := mustWrap(t, key, payload)
			for width := 1; width <= 4; width++ {
				for _, at := range append(places(0, 4, width), places(4, len(b), width)...) {
					for range 4 {
						change := r.bytes(width)
						// At least one of the changes isn't 0, at both ends in turn.
						change[int(r.word()%2)*(width-1)] |= 1
						checkRefused(t, key, laid(b, at, change...), api.ErrSum)
					}
				}
			}
			checkOpened(t, key, b, payload)
		}
	}
}

func TestOneOtherByteIsNotOpened(t *testing.T) {
	for _, payload := range [][]byte{nil, {0}, []byte("abc"), counted(8)} {
		b := mustWrap(t, 7, payload)
		for at := range b {
			for change := 1; change < 256; change++ {
				checkRefused(t, 7, laid(b, at, byte(change)), api.ErrSum)
			}
		}
	}
}

func TestOneOtherBitIsNotOpened(t *testing.T) {
	b := mustWrap(t, greatest, counted(api.MaxFrame))
	for at := range b {
		for i := range 8 {
			checkRefused(t, greatest, laid(b, at, 1<<i), api.ErrSum)
		}
	}
}

// Changes that are laid out like the sum's polynomial, or that reach from one
// end of the four bytes to the other.
func TestChangesAtBothEndsAreNotOpened(t *testing.T) {
	changes := [][]byte{
		{0x20, 0x83, 0xb8, 0xed}, {0xed, 0xb8, 0x83, 0x20},
		{0x04, 0xc1, 0x1d, 0xb7}, {0xb7, 0x1d, 0xc1, 0x04},
		{255, 255, 255, 255}, {1, 0, 0, 0}, {0, 0, 0, 1}, {128, 0, 0, 0}, {0, 0, 0, 128},
		{1, 0, 0, 1}, {128, 0, 0, 128}, {128, 0, 0, 1}, {1, 0, 0, 128},
	}
	for _, payload := range payloads() {
		b := mustWrap(t, 7, payload)
		for _, at := range append(places(0, 4, 4), places(4, len(b), 4)...) {
			for _, change := range changes {
				checkRefused(t, 7, laid(b, at, change...), api.ErrSum)
			}
		}
	}
}

// Payloads whose own sums are alike are told apart by how many bytes they have.
func TestTheCountTellsPayloadsApart(t *testing.T) {
	// The sum starts from all ones, so that these four bytes bring it to 0, where
	// any zeros behind them leave it.
	base := []byte{255, 255, 255, 255}
	sums := map[uint32]int{}
	for more := range 60 {
		payload := append(bytes.Clone(base), make([]byte, more)...)
		sum := sumOf(t, 7, payload)
		if other, ok := sums[sum]; ok {
			t.Fatalf("%d and %d zeros behind make the same sum %08x", other, more, sum)
		}
		sums[sum] = more
		b := mustWrap(t, 7, payload)
		checkRefused(t, 7, append(bytes.Clone(b), 0), api.ErrSum)
		if more > 0 {
			checkRefused(t, 7, b[:len(b)-1], api.ErrSum)
		}
	}
}
