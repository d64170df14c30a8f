package crc

import (
	"bytes"
	"testing"
)

// grounds are the lists that the tests change: of all zeros, of all ones and
// mixed, from one byte on to more than a datagram holds.
func grounds() [][]byte {
	var all [][]byte
	r := rule(52)
	for _, n := range []int{1, 2, 3, 4, 5, 6, 7, 8, 9, 16, 33, 60, 300, 1400, 4000} {
		all = append(all, make([]byte, n), bytes.Repeat([]byte{255}, n), r.bytes(n))
	}
	return all
}

// places are where so many bytes side by side can stand in a list: at the
// beginning, in the middle and at the end, and one off each.
func places(length, width int) []int {
	var all []int
	last := length - width
	for _, at := range []int{0, 1, 2, 3, last / 2, last/2 + 1, last - 3, last - 2, last - 1, last} {
		if 0 <= at && at <= last {
			all = append(all, at)
		}
	}
	return all
}

// laid is b with the bytes of change laid over it from at on.
func laid(b []byte, at int, change ...byte) []byte {
	all := bytes.Clone(b)
	for i, one := range change {
		all[at+i] ^= one
	}
	return all
}

func checkDiffer(t *testing.T, b []byte, at int, change ...byte) {
	t.Helper()
	if Sum(b) == Sum(laid(b, at, change...)) {
		t.Fatalf("%d bytes, with %x laid over them at %d, have the same sum %08x", len(b), change, at, Sum(b))
	}
}

func TestOneBitDiffers(t *testing.T) {
	for _, b := range grounds() {
		for at := 0; at < len(b); at += 1 + len(b)/300 {
			for i := range 8 {
				checkDiffer(t, b, at, 1<<i)
			}
		}
	}
}

// All lists that are alike but for one byte, and but for two side by side, have
// sums of their own.
func TestEachByteAndEachTwoHaveSumsOfTheirOwn(t *testing.T) {
	r := rule(53)
	for _, b := range [][]byte{make([]byte, 12), bytes.Repeat([]byte{255}, 12), r.bytes(12)} {
		for _, at := range places(len(b), 1) {
			checkAllDiffer(t, b, at, 1)
		}
		for _, at := range places(len(b), 2) {
			checkAllDiffer(t, b, at, 2)
		}
	}
}

func checkAllDiffer(t *testing.T, b []byte, at, width int) {
	t.Helper()
	of := map[uint32]int{}
	for n := range 1 << (8 * width) {
		sum := Sum(laid(b, at, []byte{byte(n), byte(n >> 8)}[:width]...))
		if other, ok := of[sum]; ok {
			t.Fatalf("%x with %x and with %x at %d have one sum, %08x", b, other, n, at, sum)
		}
		of[sum] = n
	}
}

func TestUpToFourBytesDiffer(t *testing.T) {
	r := rule(54)
	for _, b := range grounds() {
		for width := 1; width <= min(4, len(b)); width++ {
			for _, at := range places(len(b), width) {
				for range 8 {
					change := r.bytes(width)
					// At least one of the changes isn't 0, at both ends in turn.
					change[int(r.word()%2)*(width-1)] |= 1
					checkDiffer(t, b, at, change...)
				}
			}
		}
	}
}

// Changes that are laid out like the polynomial itself, or like all that it
// could cancel at the ends, differ too.
func TestFourBytesThatLookLikeThePolynomialDiffer(t *testing.T) {
	changes := [][]byte{
		{0x20, 0x83, 0xb8, 0xed}, {0xed, 0xb8, 0x83, 0x20},
		{0x04, 0xc1, 0x1d, 0xb7}, {0xb7, 0x1d, 0xc1, 0x04},
		{0xff, 0xff, 0xff, 0xff}, {1, 0, 0, 0}, {0, 0, 0, 1}, {0x80, 0, 0, 0}, {0, 0, 0, 0x80},
		{1, 0, 0, 1}, {0x80, 0, 0, 0x80}, {0x80, 0, 0, 1}, {1, 0, 0, 0x80}, {1, 1, 0, 0}, {0, 0x80, 1, 0},
	}
	for _, b := range grounds() {
		for _, at := range places(len(b), 4) {
			for _, change := range changes {
				checkDiffer(t, b, at, change...)
			}
		}
	}
}

// The bound is sharp: the polynomial has 33 bits, so five bytes side by side can
// differ and yet have the same sum.
func TestFiveBytesCanHaveTheSameSum(t *testing.T) {
	polynomial := []byte{0x41, 0x06, 0x71, 0xdb, 0x01}
	for _, b := range grounds() {
		for _, at := range places(len(b), 5) {
			if Sum(b) != Sum(laid(b, at, polynomial...)) {
				t.Fatalf("%d bytes, with the polynomial laid over them at %d, have another sum", len(b), at)
			}
		}
	}
}

// back is what the sum was ahead of so many shifts. The polynomial's highest bit
// is 1, so that the sum's tells whether it was laid over.
func back(sum uint32, shifts int) uint32 {
	for range shifts {
		if sum >= 1<<31 {
			sum = (sum^0xedb88320)*2 + 1
		} else {
			sum *= 2
		}
	}
	return sum
}

// found are the four bytes at a place, told from the sum of the whole list and
// from all its other bytes. Where they can be told, no other four make that sum.
func found(b []byte, at int, sum uint32) uint32 {
	sum = ^sum
	for i := len(b) - 1; i >= at+4; i-- {
		sum = back(sum, 8) ^ uint32(b[i])
	}
	return back(sum, 32) ^ ^Sum(b[:at])
}

func TestFourBytesAreToldByTheSum(t *testing.T) {
	r := rule(55)
	for _, b := range grounds() {
		for _, at := range places(len(b), 4) {
			for range 20 {
				four := r.word()
				all := bytes.Clone(b)
				copy(all[at:], []byte{byte(four), byte(four >> 8), byte(four >> 16), byte(four >> 24)})
				if got := found(b, at, Sum(all)); got != four {
					t.Fatalf("%d bytes with %08x at %d: the sum tells %08x", len(b), four, at, got)
				}
			}
		}
	}
}

// spans counts how many of the words can't be made of the others by exclusive or.
func spans(words []uint32) int {
	count := 0
	for bit := uint32(1); bit != 0; bit *= 2 {
		at := -1
		for i, word := range words {
			if word&bit != 0 {
				at = i
			}
		}
		if at < 0 {
			continue
		}
		count++
		pivot := words[at]
		for i := range words {
			if words[i]&bit != 0 {
				words[i] ^= pivot
			}
		}
	}
	return count
}

// What a change does to the sum is what its bits do, laid over one another; the
// 32 bits of four bytes each do what the others can't, so that no change of them
// does nothing.
func TestAll32BitsOfFourBytesCount(t *testing.T) {
	r := rule(56)
	for _, b := range grounds() {
		for _, at := range places(len(b), 4) {
			does := make([]uint32, 32)
			for i := range does {
				change := make([]byte, 4)
				change[i/8] = 1 << (i % 8)
				does[i] = Sum(b) ^ Sum(laid(b, at, change...))
			}
			change := r.bytes(4)
			want := Sum(b)
			for i, one := range does {
				if change[i/8]>>(i%8)&1 == 1 {
					want ^= one
				}
			}
			if got := Sum(laid(b, at, change...)); got != want {
				t.Fatalf("%d bytes, with %x laid over them at %d: %08x, and bit by bit %08x", len(b), change, at, got, want)
			}
			if got := spans(does); got != 32 {
				t.Fatalf("%d bytes, at %d: only %d bits count", len(b), at, got)
			}
		}
	}
}

// Either number alone tells Mix apart, for its four bytes stand side by side.
func TestMixDiffersWhereOneNumberDoes(t *testing.T) {
	r := rule(57)
	for range 2000 {
		a, b, change := r.word(), r.word(), r.word()|1<<(r.word()%32)
		if Mix(a, b) == Mix(a^change, b) || Mix(a, b) == Mix(a, b^change) {
			t.Fatalf("Mix(%x, %x), with %x laid over one of them, is the same", a, b, change)
		}
	}
}
