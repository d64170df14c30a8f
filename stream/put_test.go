package stream

import (
	"bytes"
	"strings"
	"testing"

	"ricochet/api"
	"ricochet/bits"
)

// sevenLines are as many as a bundle has at most; in bits they are told below.
var sevenLines = []string{"a", "bc", "\x00", "\xff", "é", "g", "h"}

func TestPutWrittenOut(t *testing.T) {
	zeros := strings.Repeat("0", 24)
	cases := []struct {
		name  string
		gone  int
		lines []string
		text  string
	}{
		{"none", 0, nil, "000"},
		{"none behind one", 1, nil, "000"},
		{"one", 0, []string{"a"}, "100 10000000" + zeros + " 100000 10000110"},
		{"one behind one", 1, []string{"a"}, "100 01000000" + zeros + " 100000 10000110"},
		{"one behind six", 6, []string{"a"}, "100 11100000" + zeros + " 100000 10000110"},
		{"a byte 0", 0, []string{"\x00"}, "100 10000000" + zeros + " 100000 00000000"},
		{"a byte 255", 0, []string{"\xff"}, "100 10000000" + zeros + " 100000 11111111"},
		{"a byte 128", 0, []string{"\x80"}, "100 10000000" + zeros + " 100000 00000001"},
		{"two bytes", 0, []string{"ab"}, "100 10000000" + zeros + " 010000 10000110 01000110"},
		{"32 bytes", 0, []string{strings.Repeat("\x01", 32)}, "100 10000000" + zeros + " 000001" + strings.Repeat(" 10000000", 32)},
		{"60 bytes", 0, []string{strings.Repeat("\x01", 60)}, "100 10000000" + zeros + " 001111" + strings.Repeat(" 10000000", 60)},
		{"two", 0, []string{"a", "b"}, "010 10000000" + zeros + " 100000 10000110 100000 01000110"},
		{"three", 2, []string{"b", "a", "b"}, "110 11000000" + zeros + " 100000 01000110 100000 10000110 100000 01000110"},
		{"seven", 0, sevenLines, "111 10000000" + zeros + sevenText},
		{"eight", 0, append(sevenLines[:7:7], "i"), "111 10000000" + zeros + sevenText},
	}
	for _, x := range cases {
		t.Run(x.name, func(t *testing.T) {
			s := &Sender{}
			for i := range x.gone {
				s.Queue("gone")
				s.Confirm(uint32(i + 2))
			}
			for _, one := range x.lines {
				if e := s.Queue(one); e != api.OK {
					t.Fatal(e)
				}
			}
			want := strings.ReplaceAll(x.text, " ", "")
			for range 2 {
				if got := put(t, s); got != want {
					t.Fatalf("Put gives %s, not %s", got, want)
				}
			}
			if got := s.Waits(); got != len(x.lines) {
				t.Fatalf("Put leaves %d", got)
			}
		})
	}
}

const sevenText = "100000 10000110" + // a
	"010000 01000110 11000110" + // bc
	"100000 00000000" +
	"100000 11111111" +
	"010000 11000011 10010101" + // é: 0xc3 0xa9
	"100000 11100110" + // g
	"100000 00010110" // h

func TestPutGivesBytes(t *testing.T) {
	var w bits.Writer
	s := &Sender{}
	s.Put(&w)
	if got := w.Bytes(); !bytes.Equal(got, []byte{0}) || w.Count() != 3 {
		t.Fatalf("no lines are %v, %d bits", got, w.Count())
	}
	s.Queue("a")
	s.Queue("b")
	w = bits.Writer{}
	s.Put(&w)
	if got := w.Bytes(); !bytes.Equal(got, []byte{10, 0, 0, 0, 8, 194, 2, 49}) || w.Count() != 63 {
		t.Fatalf("a and b are %v, %d bits", got, w.Count())
	}
}

func TestPutHasAtMostSeven(t *testing.T) {
	for _, gone := range []int{0, 1, 6, 7, 8, 254, 255, 256, 300} {
		for kept := range 33 {
			s, m := queued(t, gone, kept)
			b := m.text()
			if got := put(t, s); got != b {
				t.Fatalf("%d behind %d: %s, not %s", kept, gone, brief(got), brief(b))
			}
			scanned := &scan{rest: b}
			if got := int(scanned.number(3)); got != min(kept, 7) {
				t.Fatalf("the second telling tells of %d of %d", got, kept)
			}
			if kept > 0 && scanned.number(32) != uint64(gone+1) {
				t.Fatalf("the second telling begins elsewhere, behind %d", gone)
			}
		}
	}
}

// Each number of bytes of a line, and each byte.
func TestPutOfEachLine(t *testing.T) {
	for n := 1; n <= 60; n++ {
		s, m := &Sender{}, &mouth{}
		checkQueue(t, s, m, line(n, luck(n)))
		checkQueue(t, s, m, strings.Repeat("\xff", n))
		checkQueue(t, s, m, strings.Repeat("\x00", n))
	}
	for x := range 256 {
		s, m := &Sender{}, &mouth{}
		checkQueue(t, s, m, string([]byte{byte(x)}))
		checkQueue(t, s, m, string([]byte{0, byte(x), 255}))
	}
}

func TestSevenLongLines(t *testing.T) {
	s, m := &Sender{}, &mouth{}
	for i := range 9 {
		checkQueue(t, s, m, line(60, luck(i)))
	}
	if got := len(put(t, s)); got != 35+7*486 {
		t.Errorf("seven lines of 60 bytes are %d bits", got)
	}
}

// A bundle stands behind what was put ahead of it, at any bit, and what is put
// behind it stands there.
func TestPutBetweenOthers(t *testing.T) {
	for ahead := range 17 {
		for _, kept := range []int{0, 1, 2, 7, 9} {
			s, m := queued(t, 2, kept)
			var w bits.Writer
			w.Put(0x1_5a5a, ahead)
			s.Put(&w)
			w.Put(0x5, 3)
			s.Put(&w)
			want := told(0x1_5a5a, ahead) + m.text() + "101" + m.text()
			if got := unpack(w.Bytes())[:w.Count()]; got != want {
				t.Fatalf("%d lines behind %d bits: %s, not %s", kept, ahead, brief(got), brief(want))
			}
		}
	}
}

// The first number takes all its bits, as far as lines can be queued in a while.
func TestPutOfHighNumbers(t *testing.T) {
	s, m := &Sender{}, &mouth{}
	for gone := range 66000 {
		if s.Queue("x") != api.OK || m.queue("x") != api.OK {
			t.Fatalf("the line %d isn't queued", gone+1)
		}
		if at := gone & 0xff; at < 2 || at == 0xff {
			checkSender(t, s, m)
		}
		if s.Confirm(uint32(gone+2)) != 1 || m.confirm(uint32(gone+2)) != 1 {
			t.Fatalf("the line %d isn't confirmed", gone+1)
		}
	}
	if put(t, s) != "000" || s.Confirm(66002) != 0 || s.Waits() != 0 {
		t.Error("behind all lines")
	}
}

// Lines are told apart by their places alone.
func TestPutOfLinesThatAreAlike(t *testing.T) {
	s, m := &Sender{}, &mouth{}
	for range 12 {
		checkQueue(t, s, m, "same")
	}
	for wants := range uint32(14) {
		checkConfirm(t, s, m, wants)
	}
}
