package entity

import (
	"testing"

	"ricochet/api"
	"ricochet/bits"
)

func TestWhatIsPutIsTaken(t *testing.T) {
	for _, p := range pairs() {
		w := &bits.Writer{}
		if !Put(w, p.base, p.e) {
			t.Fatalf("%+v isn't put on %+v", p.e, p.base)
		}
		r := bits.New(w.Bytes())
		checkTaken(t, r, p.base, p.e)
		if !r.Done() {
			t.Fatalf("behind %+v on %+v something is left", p.e, p.base)
		}
	}
}

func TestWhatIsPutBehindOthersIsTaken(t *testing.T) {
	r := rule(5)
	for ahead := range 65 {
		for _, x := range written() {
			w, p, begin := &bits.Writer{}, x.pair(), uint64(r.word())
			w.Put(begin, ahead)
			Put(w, p.base, p.e)
			w.Small(-77)
			reader := bits.New(w.Bytes())
			if got, want := reader.Take(ahead), begin&(1<<ahead-1); got != want {
				t.Fatalf("ahead of it stands %d, not %d", got, want)
			}
			checkTaken(t, reader, p.base, p.e)
			if got := reader.Small(); got != -77 || !reader.Done() {
				t.Fatalf("behind %s comes %d", x.name, got)
			}
		}
	}
}

func TestAllThatArePutAreTaken(t *testing.T) {
	w := &bits.Writer{}
	for _, p := range pairs() {
		Put(w, p.base, p.e)
		// What isn't put leaves no trace among the others.
		Put(w, api.Entity{}, p.e)
		Put(w, p.base, api.Entity{})
	}
	r := bits.New(w.Bytes())
	for _, p := range pairs() {
		checkTaken(t, r, p.base, p.e)
	}
	if !r.Done() {
		t.Errorf("%d bits are left", r.Left())
	}
}

// On itself an entity has six bits, all 0, whichever it is; and these six bits
// are each formed one on itself.
func TestOnItself(t *testing.T) {
	for _, p := range pairs() {
		w := &bits.Writer{}
		if !Put(w, p.e, p.e) {
			t.Fatalf("%+v isn't put on itself", p.e)
		}
		checkWriter(t, w, "000000")
		checkTaken(t, bits.New([]byte{0}), p.e, p.e)
	}
}

// On another base the same bits are another entity, or none.
func TestTakenOnAnotherBase(t *testing.T) {
	for _, p := range pairs() {
		w := &bits.Writer{}
		Put(w, p.base, p.e)
		base := p.base
		base.At.X++
		e := p.e
		e.At.X++
		if p.e.At.X == limit {
			checkNoneTaken(t, bits.New(w.Bytes()), base)
			continue
		}
		checkTaken(t, bits.New(w.Bytes()), base, e)
	}
}
