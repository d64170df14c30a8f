package stream

import (
	"math"
	"slices"
	"testing"

	"ricochet/api"
	"ricochet/bits"
)

func TestNoSender(t *testing.T) {
	var s *Sender
	for range 2 {
		for _, n := range []int{1, 2, 59, 60} {
			if got := s.Queue(line(n, 1)); got != api.ErrNone {
				t.Fatalf("Queue of %d bytes = %v", n, got)
			}
		}
		// Which of two errors it is counts for less here than that it is one.
		for _, n := range []int{0, 61, 1000} {
			if got := s.Queue(line(n, 1)); got == api.OK {
				t.Fatalf("Queue of %d bytes = %v", n, got)
			}
		}
		for _, wants := range []uint32{0, 1, 2, 33, 1 << 31, math.MaxUint32} {
			if got := s.Confirm(wants); got != 0 {
				t.Fatalf("Confirm(%d) = %d", wants, got)
			}
		}
		checkSender(t, s, &mouth{})
		s.Put(nil)
	}
	var w bits.Writer
	w.Put(3, 2)
	s.Put(&w)
	w.Put(1, 1)
	if got := unpack(w.Bytes())[:w.Count()]; got != "110001" {
		t.Errorf("between others: %s", got)
	}
}

func TestNoReceiver(t *testing.T) {
	var r *Receiver
	for range 2 {
		checkWants(t, r, 0)
		for _, text := range []string{"", "000", spell(1, sevenLines), spell(0, sevenLines), spell(2, sevenLines), "111"} {
			checkNone(t, r, text)
		}
		if got, ok := r.Take(nil); ok || len(got) != 0 {
			t.Fatalf("Take of no reader = %q, %v", got, ok)
		}
	}
}

func TestNoWriter(t *testing.T) {
	for _, kept := range []int{0, 1, 7, 8, 32} {
		s, m := queued(t, 3, kept)
		s.Put(nil)
		checkSender(t, s, m)
	}
}

func TestNoReader(t *testing.T) {
	for _, wants := range []int{1, 2, 30} {
		r := wanting(t, wants)
		for range 2 {
			if got, ok := r.Take(nil); ok || len(got) != 0 {
				t.Fatalf("Take of no reader = %q, %v", got, ok)
			}
			checkWants(t, r, uint32(wants))
		}
		checkTake(t, r, spell(uint64(wants), sevenLines), sevenLines, uint32(wants+7))
	}
}

// A reader that failed stays where it is, whatever stands there.
func TestTakeFromAReaderThatFailed(t *testing.T) {
	for _, text := range []string{"", "000", "00000000", spell(1, []string{"a"}), spell(3, sevenLines), spell(9, sevenLines)} {
		for _, ask := range []func(b *bits.Reader){
			func(b *bits.Reader) { b.Take(65) },
			func(b *bits.Reader) { b.Take(-1) },
			func(b *bits.Reader) {
				for b.OK() {
					b.Take(b.Left() + 1)
				}
			},
		} {
			r := wanting(t, 3)
			b := bits.New(pack(text))
			for b.OK() {
				ask(b)
			}
			left := b.Left()
			for range 2 {
				if got, ok := r.Take(b); ok || len(got) != 0 || b.OK() || b.Left() != left {
					t.Fatalf("Take(%s) = %q, %v, %d left", brief(text), got, ok, b.Left())
				}
				checkWants(t, r, 3)
			}
			checkTake(t, r, spell(3, sevenLines), sevenLines, 10)
		}
	}
}

// What was answered may be written over, its spare room too, and stays when the
// receiver goes on.
func TestTakeAnswersNewMemory(t *testing.T) {
	r := wanting(t, 3)
	first, _ := r.Take(bits.New(pack(spell(1, some(1, 7)))))
	held := slices.Clone(first)
	second, _ := r.Take(bits.New(pack(spell(7, some(7, 7)))))
	room := second[:cap(second)]
	for i := range room {
		room[i] = "scrawl"
	}
	if !slices.Equal(first, held) || !slices.Equal(first, some(3, 5)) {
		t.Fatalf("what was given turns later: %q", first)
	}
	room = first[:cap(first)]
	for i := range room {
		room[i] = "scrawl"
	}
	checkWants(t, r, 14)
	checkTake(t, r, spell(10, some(10, 7)), some(14, 3), 17)
	checkTake(t, r, spell(1, some(1, 7)), nil, 17)
}

// One bundle is taken by two receivers, whose lists are written over.
func TestOneBundleForTwo(t *testing.T) {
	b := pack(spell(1, sevenLines))
	first, _ := (&Receiver{}).Take(bits.New(b))
	second, _ := (&Receiver{}).Take(bits.New(b))
	for i := range first {
		first[i] = "scrawl"
	}
	if !slices.Equal(second, sevenLines) {
		t.Errorf("two have one memory: %q", second)
	}
	for i := range b {
		b[i] ^= 0xa5
	}
	if !slices.Equal(second, sevenLines) {
		t.Errorf("what was given hangs on the bytes: %q", second)
	}
}

// The bytes that a reader is of may turn behind Take, and are left as they are.
func TestTakeLeavesTheBytes(t *testing.T) {
	memory := slices.Concat([]byte{91}, pack(spell(1, sevenLines)), []byte{94, 95, 96})
	before := slices.Clone(memory)
	part := memory[1 : len(memory)-3]
	r := &Receiver{}
	got, ok := r.Take(bits.New(part))
	if !ok || !slices.Equal(memory, before) {
		t.Fatalf("%v, %v", ok, memory)
	}
	for i := range memory {
		memory[i] = 0xff
	}
	if !slices.Equal(got, sevenLines) {
		t.Errorf("what was given turns: %q", got)
	}
	checkTake(t, r, spell(7, []string{"x", "y"}), []string{"y"}, 9)
}

// What was put doesn't turn when the sender goes on, nor the sender with it.
func TestPutDoesNotHangOnTheSender(t *testing.T) {
	s, m := queued(t, 2, 9)
	var w bits.Writer
	s.Put(&w)
	before := w.Bytes()
	checkConfirm(t, s, m, 8)
	checkQueue(t, s, m, "more")
	if !slices.Equal(w.Bytes(), before) {
		t.Fatalf("what was put turns: %v", w.Bytes())
	}
	b := w.Bytes()
	for i := range b {
		b[i] ^= 0xa5
	}
	checkSender(t, s, m)
}

// Lines may be pieces of one text, and overlap in it.
func TestQueueOfPieces(t *testing.T) {
	text := line(100, 3)
	s, m := &Sender{}, &mouth{}
	for at := range 32 {
		checkQueue(t, s, m, text[at:at+1+2*at%60])
	}
	for wants := range uint32(34) {
		checkConfirm(t, s, m, wants)
	}
}

func TestTwoSendersDoNotHangOnOneAnother(t *testing.T) {
	a, ma := &Sender{}, &mouth{}
	b, mb := &Sender{}, &mouth{}
	for i := range 40 {
		checkQueue(t, a, ma, line(5, luck(i)))
		checkSender(t, b, mb)
		if i%3 == 0 {
			checkQueue(t, b, mb, line(6, luck(i)))
		}
		if i%4 == 0 {
			checkConfirm(t, a, ma, uint32(i-1))
		}
		if i%5 == 0 {
			checkConfirm(t, b, mb, uint32(i/6+1))
		}
		checkSender(t, a, ma)
		checkSender(t, b, mb)
	}
}

func TestTwoReceiversDoNotHangOnOneAnother(t *testing.T) {
	a, b := &Receiver{}, &Receiver{}
	checkTake(t, a, spell(1, some(1, 7)), some(1, 7), 8)
	checkWants(t, b, 1)
	checkTake(t, b, spell(1, some(1, 2)), some(1, 2), 3)
	checkWants(t, a, 8)
	checkTake(t, b, spell(8, some(8, 1)), nil, 3)
	checkTake(t, a, spell(8, some(8, 1)), some(8, 1), 9)
	checkTake(t, b, spell(1, some(1, 5)), some(3, 3), 6)
	checkWants(t, a, 9)
}
