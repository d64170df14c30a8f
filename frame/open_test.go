package frame

import (
	"bytes"
	"slices"
	"testing"

	"ricochet/api"
)

func checkOpened(t *testing.T, key uint32, b, want []byte) {
	t.Helper()
	got, err := Open(key, b)
	if !bytes.Equal(got, want) || err != api.OK {
		t.Fatalf("Open(%x, %x) = %x, %d, not %x", key, b, got, err, want)
	}
}

func checkRefused(t *testing.T, key uint32, b []byte, want api.Errno) {
	t.Helper()
	got, err := Open(key, b)
	if len(got) != 0 || err != want {
		t.Fatalf("Open(%x, %x) = %x, %d, not error %d", key, b, got, err, want)
	}
}

func TestOpenByHand(t *testing.T) {
	cases := []struct {
		name string
		key  uint32
		b    string
		want string
		err  api.Errno
	}{
		{"the example", 0, "\x1a\xc6\xb3\x3f", "", api.OK},
		{"empty, key 1", 1, "\x75\x8a\x16\xa4", "", api.OK},
		{"empty, the greatest key", greatest, "\x8a\xff\x99\xbb", "", api.OK},
		{"one byte", 0, "\x43\x0d\x32\x70\x00", "\x00", api.OK},
		{"one byte, 255", greatest, "\x98\x38\x57\xbd\xff", "\xff", api.OK},
		{"abc", 7, "\x27\x66\xa7\xeaabc", "abc", api.OK},
		{"abc, another key", 8, "\x27\x66\xa7\xeaabc", "", api.ErrSum},
		{"abc, key 0", 0, "\x27\x66\xa7\xeaabc", "", api.ErrSum},
		{"the sum the other way round", 7, "\xea\xa7\x66\x27abc", "", api.ErrSum},
		{"the sum behind", 7, "abc\x27\x66\xa7\xea", "", api.ErrSum},
		{"abd", 7, "\x27\x66\xa7\xeaabd", "", api.ErrSum},
		{"acb", 7, "\x27\x66\xa7\xeaacb", "", api.ErrSum},
		{"ab", 7, "\x27\x66\xa7\xeaab", "", api.ErrSum},
		{"no payload any more", 7, "\x27\x66\xa7\xea", "", api.ErrSum},
		{"a byte of the sum cut off, and the payload", 7, "\x27\x66\xa7", "", api.ErrShort},
		{"a zero more", 7, "\x27\x66\xa7\xeaabc\x00", "", api.ErrSum},
		{"four zeros", 0, "\x00\x00\x00\x00", "", api.ErrSum},
		{"the payload's sum alone", 0, "\xc2\x41\x24\x35abc", "", api.ErrSum},
	}
	for _, c := range cases {
		got, err := Open(c.key, []byte(c.b))
		if string(got) != c.want || err != c.err {
			t.Errorf("%s: Open = %x, %d, not %x, %d", c.name, got, err, c.want, c.err)
		}
	}
}

func TestOpenOfTooFew(t *testing.T) {
	example := wrapped(0, nil)
	for _, key := range keys {
		for _, b := range [][]byte{nil, {}, {0}, {0, 0}, {0, 0, 0}, {255, 255, 255}, make([]byte, 0, 8), example[:3], example[1:], example[:1], example[:0]} {
			checkRefused(t, key, b, api.ErrShort)
		}
		checkOpened(t, key, wrapped(key, nil), nil)
	}
}

// Those of MaxFrame and 5 bytes, and of more, are refused although their sum is
// right.
func TestOpenOfTooMany(t *testing.T) {
	for _, key := range keys {
		for _, n := range []int{api.MaxFrame - 1, api.MaxFrame} {
			checkOpened(t, key, wrapped(key, counted(n)), counted(n))
		}
		for _, n := range []int{api.MaxFrame + 1, api.MaxFrame + 2, api.MaxFrame + 4, 65536} {
			checkRefused(t, key, wrapped(key, counted(n)), api.ErrLong)
			checkRefused(t, key, make([]byte, 4+n), api.ErrLong)
		}
		// Not too long, if all of it is counted, and spoiled.
		checkRefused(t, key, make([]byte, api.MaxFrame+4), api.ErrSum)
	}
}

func TestOpenOfEachLength(t *testing.T) {
	r := rule(72)
	for n := range api.MaxFrame + 1 {
		key, payload := r.word(), r.bytes(n)
		checkOpened(t, key, wrapped(key, payload), payload)
		// Bytes of no sender are opened only if the sum happens to fit.
		b := append(r.bytes(4), payload...)
		if !bytes.Equal(b, wrapped(key, payload)) {
			checkRefused(t, key, b, api.ErrSum)
		}
	}
}

func TestOpenOfWhatWasCutOffOrDrawnOut(t *testing.T) {
	for _, key := range keys {
		for _, payload := range [][]byte{nil, {0}, []byte("abc"), make([]byte, 60), counted(300), counted(api.MaxFrame)} {
			b := wrapped(key, payload)
			for n := range len(b) {
				if n >= 20 && n < len(b)-20 {
					continue
				}
				checkRefused(t, key, b[:n], refusal(n))
			}
			for more := 1; more <= 12; more++ {
				checkRefused(t, key, append(bytes.Clone(b), make([]byte, more)...), refusal(len(b)+more))
				checkRefused(t, key, append(bytes.Clone(b), counted(more)...), refusal(len(b)+more))
				checkRefused(t, key, append(make([]byte, more), b...), refusal(len(b)+more))
			}
		}
	}
}

// refusal is the error of so many bytes whose sum isn't right.
func refusal(n int) api.Errno {
	switch {
	case n < 4:
		return api.ErrShort
	case n > 1404:
		return api.ErrLong
	}
	return api.ErrSum
}

// What Open answers is new memory: changes of it don't come to the datagram, and
// none of the datagram come to it.
func TestOpenAnswersNewMemory(t *testing.T) {
	for _, n := range []int{0, 1, 3, 4, 5, 60, 300, 1399, 1400} {
		payload := counted(n)
		all := slices.Concat([]byte("--"), wrapped(7, payload), make([]byte, 32))
		held := bytes.Clone(all)
		b := all[2 : 2+4+n]
		got, err := Open(7, b)
		if !bytes.Equal(got, payload) || err != api.OK {
			t.Fatalf("Open of %d bytes = %x, %d", len(b), got, err)
		}
		for i := range got {
			got[i] ^= 255
		}
		_ = append(got, "what goes into the room behind it"...)
		if !bytes.Equal(all, held) {
			t.Fatalf("%d bytes: the datagram has changed with its payload", len(b))
		}
		checkOpened(t, 7, b, payload)
		again, _ := Open(7, b)
		for i := range all {
			all[i] = 99
		}
		if !bytes.Equal(again, payload) {
			t.Fatalf("%d bytes: the payload has changed with the datagram", len(b))
		}
	}
}

func TestRefusedDatagramsStayAsTheyAre(t *testing.T) {
	for _, b := range [][]byte{{1, 2, 3}, counted(4), counted(300), counted(1404), counted(1405)} {
		held := bytes.Clone(b)
		for range 2 {
			checkRefused(t, 7, b, refusal(len(b)))
		}
		if !bytes.Equal(b, held) {
			t.Errorf("%x is %x now", held, b)
		}
	}
}
