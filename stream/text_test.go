package stream

import (
	"bytes"
	"slices"
	"strings"
	"testing"

	"ricochet/api"
	"ricochet/bits"
)

// luck is a fixed line of numbers that look like chance.
type luck uint64

func (l *luck) below(n int) int {
	*l = *l*6364136223846793005 + 1442695040888963407
	return int(uint64(*l) >> 33 % uint64(n))
}

// line is a line of n bytes, others for each seed, with all kinds of bytes.
func line(n int, seed luck) string {
	b := make([]byte, n)
	for i := range b {
		b[i] = byte(seed.below(256))
	}
	return string(b)
}

// some are the lines whose numbers are from and those behind it: of a line's
// number all is told that it is.
func some(from, n int) []string {
	var lines []string
	for i := range n {
		number := from + i
		lines = append(lines, line(1+number%60, luck(number)*7+1))
	}
	return lines
}

// told are the lowest n bits of x as a text, the lowest one first.
func told(x uint64, n int) string {
	var b strings.Builder
	for i := range n {
		b.WriteByte('0' + byte(x>>i&1))
	}
	return b.String()
}

// spell are a bundle's bits as a text. What is no bundle is spelled too.
func spell(first uint64, lines []string) string {
	if len(lines) == 0 {
		return "000"
	}
	text := told(uint64(len(lines)), 3) + told(first, 32)
	for _, x := range lines {
		text += spellLine(len(x), x)
	}
	return text
}

// spellLine are a line's bits, which may tell of another length than it has.
func spellLine(length int, x string) string {
	text := told(uint64(length), 6)
	for i := range len(x) {
		text += told(uint64(x[i]), 8)
	}
	return text
}

// pack are the bytes whose bits the text tells; spaces count for nothing.
func pack(text string) []byte {
	text = strings.ReplaceAll(text, " ", "")
	b := make([]byte, (len(text)+7)/8)
	for i := range len(text) {
		if text[i] == '1' {
			b[i/8] |= 1 << (i % 8)
		}
	}
	return b
}

// unpack are all bits of b as a text.
func unpack(b []byte) string {
	var text string
	for _, x := range b {
		text += told(uint64(x), 8)
	}
	return text
}

// scan goes through a text of bits.
type scan struct {
	rest  string
	short bool
}

func (s *scan) number(n int) uint64 {
	if s.short || len(s.rest) < n {
		s.short = true
		return 0
	}
	var x uint64
	for i := n - 1; i >= 0; i-- {
		x = 2*x + uint64(s.rest[i]-'0')
	}
	s.rest = s.rest[n:]
	return x
}

// ear is a receiver told otherwise: line by line, by numbers that don't go round.
type ear struct{ had uint64 }

func (e *ear) hear(text string) (given []string, ok bool, left int) {
	s := &scan{rest: text}
	count := int(s.number(3))
	var number uint64 = 1
	if count > 0 {
		number = s.number(32)
	}
	ok = number > 0
	var lines []string
	for range count {
		n := int(s.number(6))
		var x []byte
		for range n {
			x = append(x, byte(s.number(8)))
		}
		ok = ok && n > 0 && n < 61
		lines = append(lines, string(x))
	}
	if s.short || !ok {
		return nil, false, 0
	}
	for _, x := range lines {
		if number == e.had+1 {
			given = append(given, x)
			e.had++
		}
		number++
	}
	return given, true, len(s.rest)
}

// mouth is a sender told otherwise: all lines that ever were, and how many are gone.
type mouth struct {
	all  []string
	gone int
}

func (m *mouth) queue(x string) api.Errno {
	switch {
	case x == "" || len(x) > 60:
		return api.ErrArg
	case len(m.all)-m.gone == 32:
		return api.ErrFull
	}
	m.all = append(m.all, x)
	return api.OK
}

func (m *mouth) text() string {
	return spell(uint64(m.gone+1), m.all[m.gone:min(m.gone+7, len(m.all))])
}

func (m *mouth) confirm(wants uint32) int {
	n := 0
	for int64(m.gone)+1 < int64(wants) && int64(wants) <= int64(len(m.all))+1 {
		m.gone++
		n++
	}
	return n
}

// put are the bits that s puts.
func put(t *testing.T, s *Sender) string {
	t.Helper()
	var w bits.Writer
	s.Put(&w)
	text := unpack(w.Bytes())
	if strings.Contains(text[w.Count():], "1") {
		t.Fatalf("behind %d bits stands %s", w.Count(), text[w.Count():])
	}
	return text[:w.Count()]
}

// checkSender asks s all that can be asked without changing it, twice.
func checkSender(t *testing.T, s *Sender, m *mouth) {
	t.Helper()
	for range 2 {
		if got, want := s.Waits(), len(m.all)-m.gone; got != want {
			t.Fatalf("Waits = %d, not %d", got, want)
		}
		if got, want := put(t, s), m.text(); got != want {
			t.Fatalf("Put gives %s, not %s", brief(got), brief(want))
		}
	}
}

// checkQueue queues a line with both tellings.
func checkQueue(t *testing.T, s *Sender, m *mouth, x string) {
	t.Helper()
	if got, want := s.Queue(x), m.queue(x); got != want {
		t.Fatalf("Queue of %d bytes = %v, not %v", len(x), got, want)
	}
	checkSender(t, s, m)
}

// checkConfirm confirms with both tellings.
func checkConfirm(t *testing.T, s *Sender, m *mouth, wants uint32) {
	t.Helper()
	before := m.gone
	if got, want := s.Confirm(wants), m.confirm(wants); got != want {
		t.Fatalf("Confirm(%d) = %d, not %d, behind %d of %d", wants, got, want, before, len(m.all))
	}
	checkSender(t, s, m)
}

// queued is a sender with the lines from 1 on, of which the first ones are gone.
func queued(t *testing.T, gone, kept int) (*Sender, *mouth) {
	t.Helper()
	s, m := &Sender{}, &mouth{}
	for i, x := range some(1, gone+kept) {
		if e := s.Queue(x); e != api.OK {
			t.Fatalf("Queue of the line %d = %v", i+1, e)
		}
		m.queue(x)
		if i < gone {
			s.Confirm(uint32(i + 2))
			m.confirm(uint32(i + 2))
		}
	}
	checkSender(t, s, m)
	return s, m
}

// checkTake takes a bundle's bits and compares all that is to be seen.
func checkTake(t *testing.T, r *Receiver, text string, want []string, wants uint32) {
	t.Helper()
	b := bits.New(pack(text))
	left := b.Left() - len(text)
	got, ok := r.Take(b)
	if !ok || !slices.Equal(got, want) {
		t.Fatalf("Take(%s) = %d lines %q, %v, not %q", brief(text), len(got), got, ok, want)
	}
	if !b.OK() || b.Left() != left {
		t.Fatalf("Take(%s) leaves %d bits, not %d", brief(text), b.Left(), left)
	}
	checkWants(t, r, wants)
}

// checkNone takes what is no bundle.
func checkNone(t *testing.T, r *Receiver, text string) {
	t.Helper()
	wants := r.Wants()
	if got, ok := r.Take(bits.New(pack(text))); ok || len(got) != 0 {
		t.Fatalf("Take(%s) = %d lines, %v, though it is no bundle", brief(text), len(got), ok)
	}
	checkWants(t, r, wants)
}

func checkWants(t *testing.T, r *Receiver, want uint32) {
	t.Helper()
	// Asking changes nothing, so that it is asked twice.
	for range 2 {
		if got := r.Wants(); got != want {
			t.Fatalf("Wants = %d, not %d", got, want)
		}
	}
}

// wanting is a receiver that wants that line.
func wanting(t *testing.T, wants int) *Receiver {
	t.Helper()
	r := &Receiver{}
	for at := 1; at < wants; {
		n := min(7, wants-at)
		checkTake(t, r, spell(uint64(at), some(at, n)), some(at, n), uint32(at+n))
		at += n
	}
	checkWants(t, r, uint32(wants))
	return r
}

// brief is a bundle's beginning, for what is told of a fault.
func brief(text string) string {
	if len(text) <= 60 {
		return text
	}
	return text[:60] + ".."
}

// A second telling that is wrong by itself would hide what it should show.
func TestTheTellingsThemselves(t *testing.T) {
	if got := told(6, 5); got != "01100" {
		t.Errorf("6 is told as %s", got)
	}
	if got := pack("1000 0110 1"); !bytes.Equal(got, []byte{0x61, 1}) {
		t.Errorf("packed: %v", got)
	}
	if got := unpack([]byte{0x61, 1}); got != "1000011010000000" {
		t.Errorf("unpacked: %s", got)
	}
	want := "010" + "1010" + strings.Repeat("0", 28) + "100000" + "10000110" + "010000" + "01000110" + "11111111"
	if got := spell(5, []string{"a", "b\xff"}); got != want {
		t.Errorf("spelled: %s", got)
	}
	e := &ear{}
	for _, x := range []struct {
		first uint64
		n     int
		given int
	}{{1, 2, 2}, {1, 2, 0}, {2, 3, 2}, {6, 1, 0}, {4, 0, 0}, {5, 7, 7}, {11, 2, 1}, {1<<32 - 1, 7, 0}} {
		given, ok, left := e.hear(spell(x.first, some(int(x.first), x.n)) + "01")
		if len(given) != x.given || !ok || left != 2 {
			t.Errorf("of %d from %d on: %d, %v, %d left", x.n, x.first, len(given), ok, left)
		}
	}
	for _, text := range []string{"", "00", "10", "100", spell(0, some(1, 1)), spell(13, []string{""}), spell(13, []string{line(61, 1)}), spell(13, some(13, 1))[1:]} {
		if given, ok, _ := e.hear(text); ok || given != nil || e.had != 12 {
			t.Errorf("%s is heard", brief(text))
		}
	}
	m := &mouth{}
	if m.text() != "000" || m.queue("") != api.ErrArg || m.queue("x") != api.OK || m.confirm(3) != 0 || m.confirm(2) != 1 || m.confirm(2) != 0 || m.text() != "000" {
		t.Errorf("a mouth: %v", m)
	}
}
