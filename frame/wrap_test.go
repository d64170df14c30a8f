package frame

import (
	"bytes"
	"encoding/binary"
	"hash/crc32"
	"testing"

	"ricochet/api"
)

const greatest = 1<<32 - 1

// keys are the edges, and some between.
var keys = []uint32{0, 1, greatest, 7, 255, 256, 1 << 31, 0x01020304, 0xedb88320, greatest - 1}

// rule is a fixed row of numbers that look like chance.
type rule uint64

func (r *rule) word() uint32 {
	*r = *r*6364136223846793005 + 1442695040888963407
	return uint32(uint64(*r) >> 32)
}

func (r *rule) bytes(n int) []byte {
	b := make([]byte, n)
	for i := range b {
		b[i] = byte(r.word() >> 24)
	}
	return b
}

// counted are so many bytes that count up and go round.
func counted(n int) []byte {
	b := make([]byte, n)
	for i := range b {
		b[i] = byte(i)
	}
	return b
}

// wrapped is the datagram told by the library's sums.
func wrapped(key uint32, payload []byte) []byte {
	with := mixed(key, uint32(len(payload)))
	sum := mixed(crc32.ChecksumIEEE(payload), with)
	return append(binary.LittleEndian.AppendUint32(nil, sum), payload...)
}

func mixed(a, b uint32) uint32 {
	eight := binary.LittleEndian.AppendUint32(nil, a)
	return crc32.ChecksumIEEE(binary.LittleEndian.AppendUint32(eight, b))
}

// mustWrap is what Wrap makes of a payload that isn't too long.
func mustWrap(t *testing.T, key uint32, payload []byte) []byte {
	t.Helper()
	b, err := Wrap(key, payload)
	if err != api.OK {
		t.Fatalf("Wrap of %d bytes with the key %x: error %d", len(payload), key, err)
	}
	return b
}

func TestWrapByHand(t *testing.T) {
	cases := []struct {
		name    string
		key     uint32
		payload []byte
		want    string
	}{
		{"the example", 0, nil, "\x1a\xc6\xb3\x3f"},
		{"empty", 0, []byte{}, "\x1a\xc6\xb3\x3f"},
		{"empty, with room", 0, make([]byte, 0, 8), "\x1a\xc6\xb3\x3f"},
		{"empty, key 1", 1, nil, "\x75\x8a\x16\xa4"},
		{"empty, the greatest key", greatest, []byte{}, "\x8a\xff\x99\xbb"},
		{"one byte, 0", 0, []byte{0}, "\x43\x0d\x32\x70\x00"},
		{"one byte, 0, key 1", 1, []byte{0}, "\x2c\x41\x97\xeb\x00"},
		{"one byte, 255, the greatest key", greatest, []byte{255}, "\x98\x38\x57\xbd\xff"},
		{"a", 0, []byte("a"), "\xa4\x98\x2a\x3ba"},
		{"abc", 7, []byte("abc"), "\x27\x66\xa7\xeaabc"},
		{"abc, the next key", 8, []byte("abc"), "\x56\xf9\x33\x98abc"},
		{"abc, a key of four bytes", 0x01020304, []byte("abc"), "\xa8\x16\x55\x17abc"},
		{"four zeros, the highest bit", 1 << 31, make([]byte, 4), "\xa9\xd1\x5b\xc3\x00\x00\x00\x00"},
		{"nine bytes", 0xedb88320, []byte("123456789"), "\xb3\xf1\xb2\x92123456789"},
		{"a word", greatest, []byte("ricochet"), "\x04\x85\x0a\x7bricochet"},
	}
	for _, c := range cases {
		got, err := Wrap(c.key, c.payload)
		if string(got) != c.want || err != api.OK {
			t.Errorf("%s: Wrap = %x, %d, not %x", c.name, got, err, c.want)
		}
	}
}

func TestWrapOfTheLongest(t *testing.T) {
	zeros, ones := make([]byte, 1400), bytes.Repeat([]byte{255}, 1400)
	cases := []struct {
		key     uint32
		payload []byte
		want    string
	}{
		{0, zeros[:1399], "\x94\x60\x87\xb3"},
		{0, zeros, "\xa6\x92\xbb\x47"},
		{0, ones, "\x6c\x97\xb9\x11"},
		{0, counted(1400), "\x24\xf5\xaa\xac"},
		{1, zeros[:1399], "\xfb\x2c\x22\x28"},
		{1, zeros, "\xc9\xde\x1e\xdc"},
		{1, ones, "\x03\xdb\x1c\x8a"},
		{1, counted(1400), "\x4b\xb9\x0f\x37"},
		{greatest, zeros[:1399], "\x04\x59\xad\x37"},
		{greatest, zeros, "\x36\xab\x91\xc3"},
		{greatest, ones, "\xfc\xae\x93\x95"},
		{greatest, counted(1400), "\xb4\xcc\x80\x28"},
	}
	for _, c := range cases {
		got, err := Wrap(c.key, c.payload)
		if string(got) != c.want+string(c.payload) || err != api.OK {
			t.Errorf("Wrap(%x, %d bytes) = %d bytes, %d, not %x and the payload", c.key, len(c.payload), len(got), err, c.want)
		}
	}
}

func TestWrapOfEachLength(t *testing.T) {
	r := rule(71)
	for n := range api.MaxFrame + 1 {
		key, payload := r.word(), r.bytes(n)
		if n%100 == 0 || n < 20 {
			for _, key := range keys {
				checkWrap(t, key, payload)
			}
		}
		checkWrap(t, key, payload)
	}
}

func checkWrap(t *testing.T, key uint32, payload []byte) {
	t.Helper()
	if got, want := mustWrap(t, key, payload), wrapped(key, payload); !bytes.Equal(got, want) {
		t.Fatalf("Wrap(%x, %x) = %x, not %x", key, payload, got, want)
	}
}

func TestWrapOfTooMany(t *testing.T) {
	for _, n := range []int{api.MaxFrame + 1, api.MaxFrame + 2, api.MaxFrame + 4, 4000, 65536, 1 << 20} {
		for _, key := range keys {
			if b, err := Wrap(key, make([]byte, n)); len(b) != 0 || err != api.ErrLong {
				t.Errorf("Wrap(%x, %d bytes) = %d bytes, %d", key, n, len(b), err)
			}
		}
	}
}

// The payload stays as it is, its spare room too, and what becomes of it later
// doesn't come to the datagram.
func TestWrapKeepsNothingOfThePayload(t *testing.T) {
	for _, n := range []int{0, 1, 3, 4, 5, 28, 60, 300, 1396, 1399, 1400} {
		all := counted(n + 64)
		held := bytes.Clone(all)
		payload := all[32 : 32+n]
		want := wrapped(7, payload)
		got := mustWrap(t, 7, payload)
		if !bytes.Equal(all, held) {
			t.Fatalf("Wrap of %d bytes has changed what was handed in", n)
		}
		for i := range all {
			all[i] ^= 255
		}
		if !bytes.Equal(got, want) {
			t.Fatalf("the datagram of %d bytes has changed with the payload", n)
		}
	}
}

func TestDatagramsShareNothing(t *testing.T) {
	payload := []byte("abc")
	first, second := mustWrap(t, 7, payload), mustWrap(t, 7, payload)
	for i := range first {
		first[i] = 0
	}
	// What is put behind one stays within that one's own memory.
	_ = append(first, "more"...)
	if want := wrapped(7, payload); !bytes.Equal(second, want) || string(payload) != "abc" {
		t.Errorf("the other datagram is %x, the payload %q", second, payload)
	}
	if third := mustWrap(t, 7, payload); !bytes.Equal(third, second) {
		t.Errorf("wrapped anew: %x, not %x", third, second)
	}
}
