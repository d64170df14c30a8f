package bits

import (
	"bytes"
	"math"
	"slices"
	"testing"
)

// told is what a reader answers without being asked for bits.
type told struct {
	ok   bool
	left int
	done bool
}

func checkReader(t *testing.T, r *Reader, want told) {
	t.Helper()
	// Asking changes nothing, so that all is asked twice.
	for range 2 {
		if got := (told{r.OK(), r.Left(), r.Done()}); got != want {
			t.Fatalf("the reader tells %v, not %v", got, want)
		}
	}
}

// checkFailed asks a reader that has failed for all kinds of bits again.
func checkFailed(t *testing.T, r *Reader, left int) {
	t.Helper()
	checkReader(t, r, told{left: left})
	for _, n := range []int{1, 0, 8, 64, -1, 65, math.MinInt64, math.MaxInt64} {
		if got := r.Take(n); got != 0 {
			t.Fatalf("failed, and Take(%d) = %d", n, got)
		}
		if got := r.Small(); got != 0 {
			t.Fatalf("failed, and Small() = %d", got)
		}
		checkReader(t, r, told{left: left})
	}
}

func TestTakeByHand(t *testing.T) {
	r := New([]byte{13, 0x34, 0x12, 0xff})
	steps := []struct {
		n    int
		want uint64
		left int
	}{
		{0, 0, 32},
		{3, 5, 29},
		{1, 1, 28},
		{0, 0, 28},
		{4, 0, 24},
		{4, 4, 20},
		{12, 0x123, 8},
		{7, 127, 1},
		{0, 0, 1},
	}
	for _, s := range steps {
		if got := r.Take(s.n); got != s.want {
			t.Errorf("Take(%d) = %d, not %d", s.n, got, s.want)
		}
		checkReader(t, r, told{ok: true, left: s.left})
	}
	if got := r.Take(1); got != 1 {
		t.Errorf("the last bit is %d", got)
	}
	checkReader(t, r, told{ok: true, done: true})
	if got := r.Take(0); got != 0 {
		t.Errorf("no bits are %d", got)
	}
	checkReader(t, r, told{ok: true, done: true})
	if got := r.Take(1); got != 0 {
		t.Errorf("behind the last bit comes %d", got)
	}
	checkFailed(t, r, 0)
}

func TestTakeOfEachWidthAtEachPlace(t *testing.T) {
	rule := rule(62)
	for _, b := range [][]byte{nil, {}, {0}, {255}, {0x5a}, make([]byte, 10), bytes.Repeat([]byte{255}, 10), rule.bytes(9), rule.bytes(20)} {
		all := bitsOf(b)
		for ahead := 0; ahead <= min(64, len(all)); ahead++ {
			for n := range 65 {
				r := New(b)
				if got := r.Take(ahead); got != all[:ahead].number().Uint64() {
					t.Fatalf("%v: Take(%d) = %d", b, ahead, got)
				}
				rest := all[ahead:]
				got := r.Take(n)
				if n > len(rest) {
					if got != 0 {
						t.Fatalf("%v: of %d bits Take(%d) = %d", b, len(rest), n, got)
					}
					checkFailed(t, r, len(rest))
					continue
				}
				if want := rest[:n].number().Uint64(); got != want {
					t.Fatalf("%v: behind %d bits Take(%d) = %d, not %d", b, ahead, n, got, want)
				}
				if !r.OK() || r.Left() != len(rest)-n {
					t.Fatalf("%v: behind %d and %d bits: %v, %d left", b, ahead, n, r.OK(), r.Left())
				}
			}
		}
	}
}

func TestTakeOfAnotherWidthFails(t *testing.T) {
	for _, n := range []int{-1, -2, -8, -63, -64, -65, math.MinInt32, math.MinInt64, 65, 66, 72, 128, 256, 320, math.MaxInt32, math.MaxInt64} {
		for _, ahead := range []int{0, 3, 8} {
			r := New(bytes.Repeat([]byte{255}, 100))
			r.Take(ahead)
			if got := r.Take(n); got != 0 {
				t.Errorf("Take(%d) = %d", n, got)
			}
			checkFailed(t, r, 800-ahead)
		}
		none := New(nil)
		if got := none.Take(n); got != 0 {
			t.Errorf("of none Take(%d) = %d", n, got)
		}
		checkFailed(t, none, 0)
	}
}

func TestReadersOfNoBytes(t *testing.T) {
	for _, b := range [][]byte{nil, {}, make([]byte, 0, 8), []byte{1, 2, 3}[:0]} {
		r := New(b)
		if r == nil {
			t.Fatal("New answers none")
		}
		checkReader(t, r, told{ok: true, done: true})
		if got := r.Take(0); got != 0 {
			t.Errorf("Take(0) = %d", got)
		}
		checkReader(t, r, told{ok: true, done: true})
		if got := r.Take(1); got != 0 {
			t.Errorf("Take(1) = %d", got)
		}
		checkFailed(t, r, 0)
		r = New(b)
		if got := r.Small(); got != 0 {
			t.Errorf("Small() = %d", got)
		}
		checkFailed(t, r, 0)
	}
	checkReader(t, &Reader{}, told{ok: true, done: true})
}

func TestSmallIsTakenByHand(t *testing.T) {
	ones := bytes.Repeat([]byte{1}, 12)
	alls := bytes.Repeat([]byte{255}, 12)
	behind := func(b []byte, n int, more ...byte) []byte { return append(slices.Clone(b[:n]), more...) }
	cases := []struct {
		name string
		b    []byte
		want int64
		ok   bool
	}{
		{"0", []byte{0}, 0, true},
		{"-1", []byte{2}, -1, true},
		{"1", []byte{4}, 1, true},
		{"-3", []byte{10}, -3, true},
		{"63", []byte{252}, 63, true},
		{"-64", []byte{254}, -64, true},
		{"64", []byte{1, 2}, 64, true},
		{"-65", []byte{3, 2}, -65, true},
		{"the greatest", append([]byte{253}, behind(alls, 8, 2)...), math.MaxInt64, true},
		{"the least", behind(alls, 9, 2), math.MinInt64, true},
		{"the tenth's bit alone", behind(ones, 9, 2), 1 << 62, true},
		{"a tenth of 0", behind(alls, 9, 0), 0, false},
		{"a tenth with its second bit", behind(alls, 9, 4), 0, false},
		{"a tenth with its second bit and its first", behind(alls, 9, 6), 0, false},
		{"a tenth with its third bit", behind(alls, 9, 10), 0, false},
		{"a tenth with its last bit", behind(alls, 9, 130), 0, false},
		{"a tenth of all", behind(alls, 9, 254), 0, false},
		{"a tenth that tells of more, of which there are none", behind(alls, 9, 3), 0, false},
		{"eleven", behind(ones, 9, 3, 2), 0, false},
		{"eleven, with a last one of 0", behind(ones, 9, 3, 0), 0, false},
		{"eleven, with a tenth of 0", behind(ones, 10, 2), 0, false},
		{"twelve", behind(alls, 11, 2), 0, false},
		{"nothing but more", alls, 0, false},
		{"0 in two", []byte{1, 0}, 0, false},
		{"0 in three", []byte{1, 1, 0}, 0, false},
		{"-3 in two", []byte{11, 0}, 0, false},
		{"64 in three", []byte{1, 3, 0}, 0, false},
		{"0 in ten", behind(ones, 9, 0), 0, false},
		{"more, and the end", []byte{1}, 0, false},
		{"more and all, and the end", []byte{255}, 0, false},
		{"more twice, and the end", []byte{1, 3}, 0, false},
		{"more nine times, and the end", alls[:9], 0, false},
	}
	for _, c := range cases {
		// What comes behind a number that is one isn't its matter.
		for _, more := range []int{0, 1, 5} {
			if !c.ok && more > 0 {
				break
			}
			r := New(append(slices.Clone(c.b), alls[:more]...))
			if got := r.Small(); got != c.want || r.OK() != c.ok {
				t.Errorf("%s: %v is %d, %v", c.name, c.b, got, r.OK())
			}
			if !c.ok {
				checkFailed(t, r, 8*len(c.b))
				continue
			}
			if r.Left() != 8*more {
				t.Errorf("%s: %v: %d left, not %d", c.name, c.b, r.Left(), 8*more)
			}
		}
	}
}

// The bits may end anywhere within a small number, also within eight of them.
func TestSmallEndsWithinIt(t *testing.T) {
	for _, x := range []int64{0, -3, 63, 64, -65, 1 << 40, math.MaxInt64, math.MinInt64} {
		all := smallRow(x)
		for has := range all {
			// Zeros ahead fill the bytes up, so that just so many bits are there.
			ahead := (8 - has%8) % 8
			r := New((rowOf(0, ahead) + all[:has]).bytes())
			r.Take(ahead)
			if got := r.Small(); got != 0 {
				t.Errorf("of %d's first %d bits Small() = %d", x, has, got)
			}
			checkFailed(t, r, has)
		}
	}
}

func checkSmall(t *testing.T, b []byte, ahead int) {
	t.Helper()
	r := New(b)
	r.Take(ahead)
	rest := bitsOf(b)[ahead:]
	want, count, ok := rest.small()
	if got := r.Small(); got != want || r.OK() != ok || r.Left() != len(rest)-count {
		t.Fatalf("%v behind %d bits: %d, %v, %d left; not %d, %v, %d", b, ahead, got, r.OK(), r.Left(), want, ok, len(rest)-count)
	}
}

func TestSmallOfEachByteAndEachTwo(t *testing.T) {
	for first := range 256 {
		checkSmall(t, []byte{byte(first)}, 0)
		for second := range 256 {
			for _, ahead := range []int{0, 1, 5, 8} {
				checkSmall(t, []byte{byte(first), byte(second)}, ahead)
			}
		}
	}
}

// Each tenth of eight bits, behind nine that tell of more.
func TestSmallOfEachTenth(t *testing.T) {
	rule := rule(63)
	for _, b := range [][]byte{bytes.Repeat([]byte{1}, 9), bytes.Repeat([]byte{255}, 9), rule.bytes(9)} {
		for i := range b {
			b[i] |= 1
		}
		for tenth := range 256 {
			checkSmall(t, append(slices.Clone(b), byte(tenth)), 0)
			checkSmall(t, append(slices.Clone(b), byte(tenth), 2), 0)
		}
	}
}

func TestSmallOfManyBytes(t *testing.T) {
	rule := rule(64)
	for range 20000 {
		b := rule.bytes(rule.below(14))
		for i := range b {
			if rule.below(4) > 0 {
				b[i] |= 1
			}
			if rule.below(4) == 0 {
				b[i] &= 3
			}
		}
		checkSmall(t, b, rule.below(min(8, 8*len(b)+1)))
	}
}

func TestDoneByHand(t *testing.T) {
	cases := []struct {
		name  string
		b     []byte
		taken int
		want  told
	}{
		{"none left", []byte{255}, 8, told{true, 0, true}},
		{"one left, 0", []byte{127}, 7, told{true, 1, true}},
		{"one left, 1", []byte{128}, 7, told{true, 1, false}},
		{"seven left, 0", []byte{1}, 1, told{true, 7, true}},
		{"seven left, the first is 1", []byte{3}, 1, told{true, 7, false}},
		{"seven left, the last is 1", []byte{129}, 1, told{true, 7, false}},
		{"seven left of the second byte", []byte{255, 1}, 9, told{true, 7, true}},
		{"seven left of the second byte, the last is 1", []byte{0, 128}, 9, told{true, 7, false}},
		{"eight left, 0", []byte{0}, 0, told{true, 8, false}},
		{"eight left behind others, 0", []byte{255, 0}, 8, told{true, 8, false}},
		{"nine left, 0", []byte{0, 0}, 7, told{true, 9, false}},
		{"sixteen left, 0", []byte{0, 0}, 0, told{true, 16, false}},
		{"64 left and more, 0", make([]byte, 100), 0, told{true, 800, false}},
	}
	for _, c := range cases {
		r := New(c.b)
		r.Take(c.taken)
		if got := (told{r.OK(), r.Left(), r.Done()}); got != c.want {
			t.Errorf("%s: %v, not %v", c.name, got, c.want)
		}
		r.Take(-1)
		checkFailed(t, r, c.want.left)
	}
}

func TestDoneOfEachByteAtEachPlace(t *testing.T) {
	for one := range 256 {
		for taken := range 9 {
			b := []byte{255, byte(one)}
			r := New(b)
			r.Take(8 + taken)
			rest := bitsOf(b)[8+taken:]
			if got, want := r.Done(), len(rest) < 8 && rest.number().Sign() == 0; got != want {
				t.Errorf("%s left: Done = %v", rest, got)
			}
		}
	}
}

// What is handed in stays as it is, its spare room too, and isn't kept.
func TestNewKeepsNothing(t *testing.T) {
	all := []byte{9, 13, 10, 77, 78, 79}
	held := slices.Clone(all)
	r := New(all[1:3])
	all[1], all[2] = 0xff, 0xff
	if r.Left() != 16 || r.Take(8) != 13 || r.Small() != -3 || !r.Done() {
		t.Error("a change of the bytes has come to the reader")
	}
	copy(all, held)
	r = New(all[1:3])
	r.Take(16)
	r.Take(1)
	r.Small()
	if !bytes.Equal(all, held) {
		t.Errorf("%v is %v now", held, all)
	}
}

func TestTwoReadersDoNotHangOnOneAnother(t *testing.T) {
	b := []byte{13, 10, 0}
	one, two := New(b), New(b)
	one.Take(8)
	two.Take(65)
	if got := one.Small(); got != -3 {
		t.Errorf("Small() = %d", got)
	}
	checkReader(t, one, told{ok: true, left: 8})
	checkFailed(t, two, 24)
}

// A reader is a pointer to where it is: whoever has it goes on where another one
// stopped.
func TestAReaderGoesOnWhereItIs(t *testing.T) {
	r := New([]byte{13, 10})
	same := r
	takeHalf := func(r *Reader) uint64 { return r.Take(4) }
	if takeHalf(r) != 13 || takeHalf(same) != 0 || same.Small() != -3 || r.Left() != 0 {
		t.Errorf("%d left", r.Left())
	}
	takeHalf(same)
	checkFailed(t, r, 0)
}

func TestANilReaderHasFailed(t *testing.T) {
	var r *Reader
	checkFailed(t, r, 0)
}
