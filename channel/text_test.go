package channel

import (
	"bytes"
	"slices"
	"strings"
	"testing"

	"ricochet/api"
	"ricochet/bits"
	"ricochet/serial"
)

// bare is the header of one whom nothing came.
func bare(number uint16) Header { return Header{Number: number} }

// telling is a header with a window.
func telling(number, ack uint16, mask uint32) Header {
	return Header{Number: number, Any: true, Ack: ack, Mask: mask}
}

// span are the numbers from one to another, around the end too.
func span(first, last uint16) []uint16 {
	all := []uint16{first}
	for n := first; n != last; {
		n = uint16((int(n) + 1) % 65536)
		all = append(all, n)
	}
	return all
}

// sent is a channel that has sent so many datagrams, and nothing came.
func sent(n int) *Channel {
	c := &Channel{}
	for range n {
		c.Send()
	}
	return c
}

func checkSend(t *testing.T, c *Channel, want Header) {
	t.Helper()
	if got := c.Send(); got != want {
		t.Fatalf("Send = %v, not %v", got, want)
	}
}

func checkTake(t *testing.T, c *Channel, h Header, want ...uint16) {
	t.Helper()
	if got, e := c.Take(h); e != api.OK || !slices.Equal(got, want) {
		t.Fatalf("Take(%v) = %v, %v, not %v", h, got, e, want)
	}
}

// checkOld takes a header that isn't new, and asks whether all stays.
func checkOld(t *testing.T, c *Channel, h Header) {
	t.Helper()
	open, window := c.Open(), c.Window()
	if got, e := c.Take(h); e != api.ErrOld || len(got) != 0 {
		t.Fatalf("Take(%v) = %v, %v, though it is old", h, got, e)
	}
	checkOpen(t, c, open...)
	checkWindow(t, c, window)
}

func checkOpen(t *testing.T, c *Channel, want ...uint16) {
	t.Helper()
	if got := c.Open(); !slices.Equal(got, want) {
		t.Fatalf("Open = %v, not %v", got, want)
	}
}

func checkWindow(t *testing.T, c *Channel, want serial.Window) {
	t.Helper()
	if got := c.Window(); got != want {
		t.Fatalf("Window = %v, not %v", got, want)
	}
}

// spelt are bits told otherwise: 0 and 1, the first bit first. Those that are
// written out have blanks between the parts.
type spelt string

func plain(parts spelt) spelt {
	return spelt(strings.Join(strings.Fields(string(parts)), ""))
}

// spell is so many bits of x, the lowest one first, told without shifts.
func spell(x uint64, n int) spelt {
	var all strings.Builder
	for range n {
		all.WriteByte("01"[x%2])
		x /= 2
	}
	return spelt(all.String())
}

// spellHeader is what a header's bits must be, whatever it tells.
func spellHeader(h Header) spelt {
	came := spelt("0")
	if h.Any {
		came = "1"
	}
	return spell(uint64(h.Number), 16) + came + spell(uint64(h.Ack), 16) + spell(uint64(h.Mask), 32)
}

// bytes are the bytes of x, the last one filled up with 0.
func (x spelt) bytes() []byte {
	powers := [8]byte{1, 2, 4, 8, 16, 32, 64, 128}
	b := make([]byte, (len(x)+7)/8)
	for i := range x {
		if x[i] == '1' {
			b[i/8] += powers[i%8]
		}
	}
	return b
}

// value is the number whose bits x are.
func (x spelt) value() uint64 {
	var all uint64
	for i := len(x) - 1; i >= 0; i-- {
		all = 2*all + uint64(x[i]-'0')
	}
	return all
}

// header is the one with which x begins, and whether there is one.
func (x spelt) header() (Header, bool) {
	if len(x) < 65 {
		return Header{}, false
	}
	h := Header{Number: uint16(x[:16].value()), Any: x[16] == '1', Ack: uint16(x[17:33].value()), Mask: uint32(x[33:65].value())}
	if x[16] == '0' && strings.Contains(string(x[17:65]), "1") {
		return Header{}, false
	}
	return h, true
}

func checkPut(t *testing.T, w *bits.Writer, want spelt) {
	t.Helper()
	if got := w.Count(); got != len(want) {
		t.Fatalf("%d bits are put, not %d", got, len(want))
	}
	if got := w.Bytes(); !bytes.Equal(got, want.bytes()) {
		t.Fatalf("%v is put, not %v", got, want.bytes())
	}
}

// checkRead reads a header that must come next, and asks where the reader is then.
func checkRead(t *testing.T, r *bits.Reader, want Header) {
	t.Helper()
	left := r.Left()
	if got, ok := Read(r); !ok || got != want {
		t.Fatalf("%v, %v is read, not %v", got, ok, want)
	}
	if !r.OK() || left-r.Left() != 65 {
		t.Fatalf("%d bits are read, %v", left-r.Left(), r.OK())
	}
}

func checkNoneRead(t *testing.T, r *bits.Reader) {
	t.Helper()
	if got, ok := Read(r); ok || got != (Header{}) {
		t.Fatalf("%v, %v is read", got, ok)
	}
}

// journal is a channel told otherwise: what it sent and what came are counted on
// without end in place of going round.
type journal struct {
	sent   int
	open   []int
	came   map[int]bool
	latest int
}

func newJournal() *journal { return &journal{came: map[int]bool{}} }

func (j *journal) send() Header {
	w := j.window()
	h := Header{Number: uint16(j.sent % 65536), Any: w.Any, Ack: w.Last, Mask: w.Mask}
	j.open = append(j.open, j.sent)
	j.sent++
	for len(j.open) > 64 {
		j.open = slices.Clone(j.open[1:])
	}
	return h
}

func (j *journal) take(h Header) ([]uint16, api.Errno) {
	if !j.note(h.Number) {
		return nil, api.ErrOld
	}
	there := named(h)
	var acked []uint16
	var open []int
	for _, count := range j.open {
		if n := uint16(count % 65536); there[n] {
			acked = append(acked, n)
		} else {
			open = append(open, count)
		}
	}
	j.open = open
	return acked, api.OK
}

// note writes down that the number n came, if it is new.
func (j *journal) note(n uint16) bool {
	if len(j.came) == 0 {
		j.latest = 1<<20 + int(n)
		j.came[j.latest] = true
		return true
	}
	count := (j.latest-32768)/65536*65536 + int(n)
	if count < j.latest-32768 {
		count += 65536
	}
	if j.came[count] || count < j.latest-32 {
		return false
	}
	j.came[count] = true
	j.latest = max(j.latest, count)
	return true
}

func (j *journal) window() serial.Window {
	if len(j.came) == 0 {
		return serial.Window{}
	}
	w := serial.Window{Any: true, Last: uint16(j.latest % 65536)}
	power := uint32(1)
	for i := range 32 {
		if j.came[j.latest-1-i] {
			w.Mask += power
		}
		power *= 2
	}
	return w
}

func (j *journal) numbers() []uint16 {
	var all []uint16
	for _, count := range j.open {
		all = append(all, uint16(count%65536))
	}
	return all
}

// named are the numbers that came, as a header tells.
func named(h Header) map[uint16]bool {
	all := map[uint16]bool{}
	if !h.Any {
		return all
	}
	all[h.Ack] = true
	for i, bit := range spell(uint64(h.Mask), 32) {
		if bit == '1' {
			all[uint16((int(h.Ack)+65535-i)%65536)] = true
		}
	}
	return all
}

// luck is a fixed line of numbers that look like chance.
type luck uint64

func (l *luck) below(n int) int {
	*l = *l*6364136223846793005 + 1442695040888963407
	return int(uint64(*l) >> 33 % uint64(n))
}

// mask is of none, of all, of few, of many, or anything.
func (l *luck) mask() uint32 {
	word := func() uint32 { return uint32(l.below(65536))*65536 + uint32(l.below(65536)) }
	switch l.below(6) {
	case 0:
		return 0
	case 1:
		return 0xffffffff
	case 2:
		return word() & word() & word()
	case 3:
		return word() | word() | word()
	}
	return word()
}

// on is so many steps on from n, around the end too.
func on(n uint16, steps int) uint16 { return uint16(int(n) + steps + 65536) }

// A second telling that is wrong by itself would hide what it should show.
func TestTheTellingsThemselves(t *testing.T) {
	if got := plain("101 1"); got != "1011" || got.bytes()[0] != 13 || got.value() != 13 || spell(13, 5) != "10110" {
		t.Errorf("13 is %s, %v, %d, %s", got, got.bytes(), got.value(), spell(13, 5))
	}
	for _, h := range headers() {
		if got, ok := (spellHeader(h) + "1").header(); got != h || !ok || len(spellHeader(h)) != 65 {
			t.Errorf("%v is %v, %v", h, got, ok)
		}
	}
	if got := span(65534, 1); !slices.Equal(got, []uint16{65534, 65535, 0, 1}) {
		t.Errorf("65534 to 1: %v", got)
	}
	got := named(telling(0, 1, 0x80000002))
	if len(got) != 3 || !got[1] || !got[65535] || !got[65505] {
		t.Errorf("1, and 2 and 32 ahead of it: %v", got)
	}
	j := newJournal()
	for range 65 {
		j.send()
	}
	j.take(telling(9, 64, 0xffffffff))
	if h := j.send(); h != telling(65, 9, 0) || !slices.Equal(j.numbers(), append(span(1, 31), 65)) {
		t.Errorf("the journal has sent %v, open are %v", h, j.numbers())
	}
}
