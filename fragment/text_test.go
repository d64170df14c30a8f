package fragment

import (
	"bytes"
	"slices"
	"testing"

	"ricochet/api"
)

// luck is a fixed line of numbers that look like chance.
type luck uint64

func (l *luck) below(n int) int {
	*l = *l*6364136223846793005 + 1442695040888963407
	return int(uint64(*l) >> 33 % uint64(n))
}

// shuffle is a list's things in an order that looks like chance.
func shuffle[T any](l *luck, things []T) []T {
	mixed := slices.Clone(things)
	for i := len(mixed) - 1; i > 0; i-- {
		at := l.below(i + 1)
		mixed[i], mixed[at] = mixed[at], mixed[i]
	}
	return mixed
}

// text is n bytes, others for each seed.
func text(n int, seed luck) []byte {
	b := make([]byte, n)
	for i := range b {
		b[i] = byte(seed.below(256))
	}
	return b
}

// spell is a part's bytes told otherwise, without bits: of the third byte the
// lower half is how many parts there are, less 1, the upper one the place.
func spell(id uint16, count, place int, own []byte) []byte {
	return slices.Concat([]byte{byte(id % 256), byte(id / 256), byte(count - 1 + 16*place)}, own)
}

// cut are the parts of a message. It may be longer than Split allows.
func cut(id uint16, b []byte) [][]byte {
	var own [][]byte
	for len(b) > 300 {
		own = append(own, b[:300])
		b = b[300:]
	}
	own = append(own, b)
	var parts [][]byte
	for place := range own {
		parts = append(parts, spell(id, len(own), place, own[place]))
	}
	return parts
}

// whole is a message of so many parts, another one for each id and count.
func whole(id uint16, count int) []byte {
	return text(300*(count-1)+1+int(id)%300, luck(id)*16+luck(count))
}

// nth is the part at a place of that message.
func nth(id uint16, count, place int) []byte {
	return cut(id, whole(id, count))[place]
}

// one is a part that came.
type one struct {
	id           uint16
	count, place int
	own          string
}

// told is the part whose bytes b are, and whether they are one's.
func told(b []byte) (one, bool) {
	if len(b) < 4 || len(b) > 303 {
		return one{}, false
	}
	x := one{id: uint16(b[0]) + 256*uint16(b[1]), count: int(b[2])%16 + 1, place: int(b[2]) / 16, own: string(b[3:])}
	if x.count > 14 || x.place >= x.count {
		return one{}, false
	}
	return x, len(x.own) == 300 || x.place == x.count-1
}

func (x one) beside(other one) bool {
	return x.id == other.id && x.count == other.count
}

// shelf is an assembler told otherwise: all that is kept stands in one row, as
// it came.
type shelf struct{ row []one }

func (s *shelf) feed(b []byte) ([]byte, bool, api.Errno) {
	x, ok := told(b)
	if !ok {
		return nil, false, api.ErrForm
	}
	if slices.ContainsFunc(s.row, func(y one) bool { return y.beside(x) && y.place == x.place }) {
		return nil, false, api.ErrOld
	}
	if s.waits() == 4 && !slices.ContainsFunc(s.row, x.beside) {
		s.drop(s.row[0])
	}
	s.row = append(s.row, x)
	byPlace := map[int]string{}
	for _, y := range s.row {
		if y.beside(x) {
			byPlace[y.place] = y.own
		}
	}
	if len(byPlace) < x.count {
		return nil, false, api.OK
	}
	s.drop(x)
	var all string
	for place := range x.count {
		all += byPlace[place]
	}
	return []byte(all), true, api.OK
}

func (s *shelf) drop(x one) {
	s.row = slices.DeleteFunc(s.row, x.beside)
}

func (s *shelf) waits() int {
	first := 0
	for i, x := range s.row {
		if !slices.ContainsFunc(s.row[:i], x.beside) {
			first++
		}
	}
	return first
}

// checkPart feeds a part that doesn't make its message whole.
func checkPart(t *testing.T, a *Assembler, part []byte, waits int) {
	t.Helper()
	if got, ok, e := a.Feed(part); len(got) != 0 || ok || e != api.OK {
		t.Fatalf("Feed(%s) = %d bytes, %v, %v, though a part is missing", brief(part), len(got), ok, e)
	}
	checkWaits(t, a, waits)
}

// checkWhole feeds the part that was missing.
func checkWhole(t *testing.T, a *Assembler, part, want []byte, waits int) {
	t.Helper()
	got, ok, e := a.Feed(part)
	if !ok || e != api.OK || !bytes.Equal(got, want) {
		t.Fatalf("Feed(%s) = %s, %v, %v, not %s", brief(part), brief(got), ok, e, brief(want))
	}
	checkWaits(t, a, waits)
}

// checkRefused feeds what isn't kept.
func checkRefused(t *testing.T, a *Assembler, part []byte, want api.Errno) {
	t.Helper()
	waits := a.Waits()
	if got, ok, e := a.Feed(part); len(got) != 0 || ok || e != want {
		t.Fatalf("Feed(%s) = %d bytes, %v, %v, not %v", brief(part), len(got), ok, e, want)
	}
	checkWaits(t, a, waits)
}

func checkWaits(t *testing.T, a *Assembler, want int) {
	t.Helper()
	// Asking changes nothing, so that it is asked twice.
	for range 2 {
		if got := a.Waits(); got != want {
			t.Fatalf("Waits = %d, not %d", got, want)
		}
	}
}

func checkSplit(t *testing.T, id uint16, b []byte, want [][]byte) {
	t.Helper()
	got, e := Split(id, b)
	if e != api.OK || !slices.EqualFunc(got, want, bytes.Equal) {
		t.Fatalf("Split(%d, %s) = %d parts, %v, not those of %d that it must be", id, brief(b), len(got), e, len(want))
	}
}

// brief is the beginning of b, for what is told of a fault.
func brief(b []byte) string {
	const digits = "0123456789abcdef"
	var s []byte
	for _, x := range b[:min(8, len(b))] {
		s = append(s, digits[x/16], digits[x%16], ' ')
	}
	if len(b) > 8 {
		s = append(s, ".. "...)
	}
	length := len(b)
	var count []byte
	for ; length > 9; length /= 10 {
		count = append([]byte{digits[length%10]}, count...)
	}
	return string(s) + "(" + string(digits[length]) + string(count) + ")"
}

// A second telling that is wrong by itself would hide what it should show.
func TestTheTellingsThemselves(t *testing.T) {
	if got := spell(0x1234, 3, 2, []byte{9, 8}); !bytes.Equal(got, []byte{0x34, 0x12, 0x22, 9, 8}) {
		t.Errorf("the last one of three is %v", got)
	}
	for _, count := range []int{1, 2, 3, 13, 14} {
		for _, id := range []uint16{0, 1, 298, 299, 300, 65535} {
			parts := cut(id, whole(id, count))
			if len(parts) != count {
				t.Fatalf("%d parts, not %d", len(parts), count)
			}
			s := &shelf{}
			for place, part := range parts {
				x, ok := told(part)
				if !ok || x.id != id || x.count != count || x.place != place {
					t.Errorf("the part %d of %d is told as %v, %v", place, count, x, ok)
				}
				got, ok, e := s.feed(part)
				if last := place == count-1; ok != last || e != api.OK || last && !bytes.Equal(got, whole(id, count)) {
					t.Errorf("behind the part %d of %d: %d bytes, %v, %v", place, count, len(got), ok, e)
				}
			}
		}
	}
	s := &shelf{}
	for id := range uint16(6) {
		s.feed(nth(id, 2, 1))
	}
	if s.waits() != 4 || s.row[0].id != 2 {
		t.Errorf("of six four wait: %d, the first is %d", s.waits(), s.row[0].id)
	}
	if got := brief(text(303, 1)); got[len(got)-5:] != "(303)" {
		t.Errorf("303 bytes are %s", got)
	}
}
