package bits

import (
	"math"
	"testing"
)

// A piece is what is put in one call: a number of n bits, or a small one.
type piece struct {
	x     uint64
	n     int
	small bool
}

func (p piece) put(w *Writer) {
	if p.small {
		w.Small(int64(p.x))
		return
	}
	w.Put(p.x, p.n)
}

// want is what must be taken: of a number that has bits above the lowest n, these.
func (p piece) want() uint64 {
	if p.small || p.n == 64 {
		return p.x
	}
	return p.x % (1 << p.n)
}

func (p piece) take(r *Reader) uint64 {
	if p.small {
		return uint64(r.Small())
	}
	return r.Take(p.n)
}

func (p piece) row() row {
	if p.small {
		return smallRow(int64(p.x))
	}
	return rowOf(p.x, p.n)
}

// checkTaken puts all, and takes it again one by one.
func checkTaken(t *testing.T, all []piece) {
	t.Helper()
	var w Writer
	for _, p := range all {
		p.put(&w)
	}
	b := w.Bytes()
	if len(b) != (w.Count()+7)/8 {
		t.Fatalf("%d bytes of %d bits", len(b), w.Count())
	}
	r := New(b)
	left := 8 * len(b)
	for i, p := range all {
		if got := p.take(r); got != p.want() || !r.OK() {
			t.Fatalf("the piece %d, %v, is taken as %d, %v", i, p, got, r.OK())
		}
		left -= len(p.row())
		if r.Left() != left {
			t.Fatalf("behind the piece %d, %v, %d are left, not %d", i, p, r.Left(), left)
		}
	}
	if left >= 8 {
		t.Fatalf("%d bits more than were put", left)
	}
	checkReader(t, r, told{ok: true, left: left, done: true})
	if r.Take(left+1) != 0 {
		t.Fatal("more is taken than was put")
	}
	checkFailed(t, r, left)
}

func TestNothingPutIsNothingTaken(t *testing.T) {
	checkTaken(t, nil)
	checkTaken(t, []piece{{n: 0}, {x: math.MaxUint64, n: 0}})
}

func TestEachNumberOfEachWidthIsTaken(t *testing.T) {
	for n := range 65 {
		var all []piece
		for _, x := range numbers() {
			all = append(all, piece{x: x, n: n})
			checkTaken(t, []piece{{x: x, n: n}})
		}
		checkTaken(t, all)
	}
}

func TestEachSmallNumberIsTaken(t *testing.T) {
	for ahead := range 8 {
		all := []piece{{x: 0xff, n: ahead}}
		for _, x := range smalls() {
			all = append(all, piece{x: uint64(x), small: true})
			checkTaken(t, []piece{{n: ahead}, {x: uint64(x), small: true}})
		}
		checkTaken(t, all)
	}
}

// Many numbers of all widths, small ones between them, one behind the other.
func TestManyPiecesAreTaken(t *testing.T) {
	r := rule(65)
	for range 300 {
		var all []piece
		for range r.below(200) {
			p := piece{x: r.word(), n: r.below(65), small: r.below(3) == 0}
			if p.small {
				p.x >>= r.below(64)
				if r.below(2) == 0 {
					p.x = -p.x
				}
			}
			all = append(all, p)
		}
		checkTaken(t, all)
	}
}

func TestAllWidthsUpAndDownAreTaken(t *testing.T) {
	var all []piece
	for n := range 65 {
		all = append(all, piece{x: math.MaxUint64, n: n}, piece{x: uint64(int64(n) - 32), small: true})
	}
	for n := 64; n >= 0; n-- {
		all = append(all, piece{x: 0x9e3779b97f4a7c15, n: n}, piece{x: 1, n: 1})
	}
	checkTaken(t, all)
}

// A writer goes on behind Bytes and behind what it doesn't put.
func TestWhatIsPutLaterIsTakenToo(t *testing.T) {
	var w Writer
	var want row
	r := rule(66)
	for range 300 {
		p := piece{x: r.word(), n: r.below(65), small: r.below(4) == 0}
		p.put(&w)
		w.Put(r.word(), 65+r.below(100))
		w.Put(r.word(), -1-r.below(100))
		want += p.row()
		b := w.Bytes()
		for i := range b {
			b[i] = ^b[i]
		}
	}
	checkWriter(t, &w, want)
	reader := New(w.Bytes())
	for i := 0; i+50 <= len(want); i += 50 {
		if got := reader.Take(50); got != want[i:i+50].number().Uint64() {
			t.Fatalf("at %d: %d", i, got)
		}
	}
}
