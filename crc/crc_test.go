package crc

import (
	"bytes"
	"hash/crc32"
	"strings"
	"testing"
)

// rule is a fixed row of numbers that look like chance.
type rule uint64

func (r *rule) word() uint32 {
	*r = *r*6364136223846793005 + 1442695040888963407
	return uint32(uint64(*r) >> 32)
}

func (r *rule) bytes(n int) []byte {
	b := make([]byte, n)
	for i := range b {
		b[i] = byte(r.word() >> 24)
	}
	return b
}

// divided is the sum told otherwise, as what is left of a division: the bytes'
// bits in a row, each byte's lowest one first, with 32 zeros behind them and the
// first 32 turned, are divided by the polynomial, bit by bit from the left on.
func divided(b []byte) uint32 {
	var row []int
	for _, one := range b {
		for i := range 8 {
			row = append(row, int(one)>>i%2)
		}
	}
	row = append(row, make([]int, 32)...)
	for i := range 32 {
		row[i] = 1 - row[i]
	}
	const divisor = "100000100110000010001110110110111"
	for i := range len(row) - 32 {
		if row[i] == 0 {
			continue
		}
		for k, digit := range divisor {
			row[i+k] = (row[i+k] + int(digit-'0')) % 2
		}
	}
	left, place := uint32(0), uint32(1)
	for _, bit := range row[len(row)-32:] {
		left += place * uint32(1-bit)
		place *= 2
	}
	return left
}

func TestSumByHand(t *testing.T) {
	cases := []struct {
		name string
		b    []byte
		want uint32
	}{
		{"nil", nil, 0},
		{"empty", []byte{}, 0},
		{"empty, with room", make([]byte, 0, 8), 0},
		{"the example", []byte("123456789"), 0xcbf43926},
		{"one byte, 0", []byte{0}, 0xd202ef8d},
		{"one byte, 1", []byte{1}, 0xa505df1b},
		{"one byte, 128", []byte{128}, 0x3fba6cad},
		{"one byte, 255", []byte{255}, 0xff000000},
		{"a", []byte("a"), 0xe8b7be43},
		{"abc", []byte("abc"), 0x352441c2},
		{"two zeros", make([]byte, 2), 0x41d912ff},
		{"four zeros", make([]byte, 4), 0x2144df1c},
		{"eight zeros", make([]byte, 8), 0x6522df69},
		{"32 zeros", make([]byte, 32), 0x190a55ad},
		{"two of all ones", bytes.Repeat([]byte{255}, 2), 0xffff0000},
		{"three of all ones", bytes.Repeat([]byte{255}, 3), 0xffffff00},
		{"four of all ones", bytes.Repeat([]byte{255}, 4), 0xffffffff},
		{"eight of all ones", bytes.Repeat([]byte{255}, 8), 0x2144df1c},
		{"32 of all ones", bytes.Repeat([]byte{255}, 32), 0xff6cab0b},
		{"a sentence", []byte("The quick brown fox jumps over the lazy dog"), 0x414fa339},
	}
	for _, c := range cases {
		if got := Sum(c.b); got != c.want {
			t.Errorf("%s: Sum = %08x, not %08x", c.name, got, c.want)
		}
	}
}

func TestSumOfEachByteAndEachTwo(t *testing.T) {
	for first := range 256 {
		checkSum(t, []byte{byte(first)})
		for second := range 256 {
			checkSum(t, []byte{byte(first), byte(second)})
		}
	}
}

func TestSumOfEachLength(t *testing.T) {
	r := rule(5)
	for n := range 300 {
		checkSum(t, make([]byte, n))
		checkSum(t, bytes.Repeat([]byte{255}, n))
		for range 5 {
			checkSum(t, r.bytes(n))
		}
	}
}

func checkSum(t *testing.T, b []byte) {
	t.Helper()
	got := Sum(b)
	if want := crc32.ChecksumIEEE(b); got != want {
		t.Fatalf("Sum(%x) = %08x, not %08x", b, got, want)
	}
	if want := divided(b); got != want {
		t.Fatalf("Sum(%x) = %08x, and divided it is %08x", b, got, want)
	}
}

func TestSumOfLongLists(t *testing.T) {
	r := rule(6)
	for _, n := range []int{1399, 1400, 1401, 4000, 65535, 65536, 65537, 1 << 20} {
		for _, b := range [][]byte{make([]byte, n), bytes.Repeat([]byte{255}, n), r.bytes(n), []byte(strings.Repeat("ricochet ", n/9))} {
			if got, want := Sum(b), crc32.ChecksumIEEE(b); got != want {
				t.Errorf("Sum of %d bytes = %08x, not %08x", len(b), got, want)
			}
		}
	}
}

// A piece is summed as a list of its own, and what is handed in stays as it is,
// its spare room too.
func TestSumOfAPieceLeavesAllAsItIs(t *testing.T) {
	all := []byte("--123456789--and what stands behind it")
	held := bytes.Clone(all)
	for range 2 {
		if got := Sum(all[2:11]); got != 0xcbf43926 {
			t.Errorf("Sum of the piece = %08x", got)
		}
	}
	if got := Sum(all[2:2]); got != 0 {
		t.Errorf("Sum of a piece without bytes = %08x", got)
	}
	if !bytes.Equal(all, held) {
		t.Errorf("%q is %q now", held, all)
	}
}

func TestMixByHand(t *testing.T) {
	cases := []struct {
		a, b  uint32
		bytes string
		want  uint32
	}{
		{0x34333231, 0x38373635, "12345678", 0x9ae0daaf},
		{0, 0, "\x00\x00\x00\x00\x00\x00\x00\x00", 0x6522df69},
		{0xffffffff, 0xffffffff, "\xff\xff\xff\xff\xff\xff\xff\xff", 0x2144df1c},
		{0xffffffff, 0, "\xff\xff\xff\xff\x00\x00\x00\x00", 0xffffffff},
		{0, 0xffffffff, "\x00\x00\x00\x00\xff\xff\xff\xff", 0xbb99ff8a},
		{1, 2, "\x01\x00\x00\x00\x02\x00\x00\x00", 0x0381177c},
		{2, 1, "\x02\x00\x00\x00\x01\x00\x00\x00", 0x9fbbbf71},
		{0x04030201, 0x08070605, "\x01\x02\x03\x04\x05\x06\x07\x08", 0x3fca88c5},
		{0x80000000, 0x01000000, "\x00\x00\x00\x80\x00\x00\x00\x01", 0xa3c35f6d},
	}
	for _, c := range cases {
		got := Mix(c.a, c.b)
		if got != c.want || got != Sum([]byte(c.bytes)) {
			t.Errorf("Mix(%x, %x) = %08x, not %08x", c.a, c.b, got, c.want)
		}
	}
}

// eight are a's four bytes and b's, told without shifts.
func eight(a, b uint32) []byte {
	var all []byte
	for _, n := range []uint32{a, b} {
		for range 4 {
			all = append(all, byte(n%256))
			n /= 256
		}
	}
	return all
}

func TestMixIsTheSumOfEightBytes(t *testing.T) {
	edges := []uint32{0, 1, 127, 128, 255, 256, 0xff00, 0xff0000, 0xff000000, 0x7fffffff, 0x80000000, 0xfffffffe, 0xffffffff, 0xedb88320, 0x01020304}
	for i := range 32 {
		edges = append(edges, 1<<i)
	}
	for _, a := range edges {
		for _, b := range edges {
			checkMix(t, a, b)
		}
	}
	r := rule(7)
	for range 20000 {
		checkMix(t, r.word(), r.word())
	}
}

func checkMix(t *testing.T, a, b uint32) {
	t.Helper()
	all := eight(a, b)
	got := Mix(a, b)
	if got != Sum(all) || got != crc32.ChecksumIEEE(all) {
		t.Fatalf("Mix(%x, %x) = %08x, and Sum(%x) = %08x", a, b, got, all, Sum(all))
	}
}
