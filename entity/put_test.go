package entity

import (
	"bytes"
	"strings"
	"testing"

	"ricochet/api"
	"ricochet/bits"
)

// told is an entity on a base, and its bits, written out.
type told struct {
	name     string
	id, kind int
	base, e  row
	bits     text
}

func written() []told {
	full := strings.Repeat("11111111 ", 9)
	return []told{
		{"a player on itself", 3, 1, row{5, -7, 1, 2, 50, 0}, row{5, -7, 1, 2, 50, 0}, "000000"},
		{"a dead player on itself", 3, 1, row{5, -7, 0, 0, 0, 20}, row{5, -7, 0, 0, 0, 20}, "000000"},
		{"a ball on itself", 9, 2, row{5, -7, 1, 2, 100, 0}, row{5, -7, 1, 2, 100, 0}, "000000"},
		{"X", 1, 1, row{4, 0, 0, 0, 100, 0}, row{5, 0, 0, 0, 100, 0}, "100000 00100000"},
		{"Y", 8, 1, row{0, 0, 0, 0, 100, 0}, row{0, -64, 0, 0, 100, 0}, "010000 01111111"},
		{"X of Vel", 9, 2, row{0, 0, 0, 0, 100, 0}, row{0, 0, 1, 0, 100, 0}, "001000 00100000"},
		{"Y of Vel", 16, 2, row{0, 0, 0, 0, 100, 0}, row{0, 0, 0, -1, 100, 0}, "000100 01000000"},
		{"Health", 1, 1, row{0, 0, 0, 0, 100, 0}, row{0, 0, 0, 0, 36, 0}, "000010 01111111"},
		{"Wait", 1, 1, row{0, 0, 0, 0, 0, 19}, row{0, 0, 0, 0, 0, 20}, "000001 00100000"},
		{"Health and Wait", 1, 1, row{0, 0, 0, 0, 100, 0}, row{0, 0, 0, 0, 0, 20}, "000011 11110001 01000000 00001010"},
		{"X and Health", 3, 1, row{9, -7, 0, 0, 100, 0}, row{5, -7, 0, 0, 50, 0}, "100010 01110000 01100011"},
		{"Y and X of Vel", 9, 2, row{98304, 0, 65536, 65536, 100, 0}, row{98304, 32768, -65536, 65536, 100, 0},
			"011000 10000000 10000000 00010000 11111111 11111111 01111000"},
		{"all of a player", 2, 1, row{0, 0, 0, 0, 100, 0}, row{65536, -65536, 16384, -16384, 0, 20},
			"111111 10000000 10000000 00001000 11111111 11111111 01110000 10000000 10000000 00100000 11111111 11111111 01000000 11110001 01000000 00001010"},
		{"a ball from end to end", 10, 2, row{-limit, limit, -65536, 65536, 100, 0}, row{limit, -limit, 65536, -65536, 100, 0},
			"111100 10000000 10000000 10000000 10000000 00100000 11111111 11111111 11111111 11111111 01000000 10000000 10000000 00000100 11111111 11111111 01111000"},
		{"a ball on one that isn't formed", 9, 2, row{0, 0, 0, 0, 0, -1}, row{1, 2, 3, 4, 100, 0},
			"111111 00100000 00010000 00110000 00001000 10001001 01000000 00100000"},
		{"the least X", 9, 2, row{least, 0, 0, 0, 100, 0}, row{0, 0, 0, 0, 100, 0}, text("100000 " + full + "01000000")},
		{"the least X, gone round", 9, 2, row{least, 0, 0, 0, 100, 0}, row{limit, 0, 0, 0, 100, 0},
			"100000 11111111 11111111 11111111 11111111 10111111 11111111 11111111 11111111 11111111 01000000"},
		{"the greatest X, gone round", 9, 2, row{greatest, 0, 0, 0, 100, 0}, row{-2, 0, 0, 0, 100, 0},
			"100000 10111111 11111111 11111111 11111111 11111111 11111111 11111111 11111111 11111111 01000000"},
		{"the greatest Health", 9, 2, row{0, 0, 0, 0, greatest, 0}, row{0, 0, 0, 0, 100, 0},
			"000010 11010110 10111111 11111111 11111111 11111111 11111111 11111111 11111111 11111111 01000000"},
		{"the least Health and greatest Wait", 9, 2, row{0, 0, 0, 0, least, greatest}, row{0, 0, 0, 0, 100, 0},
			"000011 11110110 10111111 11111111 11111111 11111111 11111111 11111111 11111111 11111111 01000000 11011111 11111111 11111111 11111111 11111111 11111111 11111111 11111111 11111111 01000000"},
	}
}

func (x told) pair() pair {
	return pair{entityOf(x.id, x.kind, x.base), entityOf(x.id, x.kind, x.e)}
}

func TestPutWrittenOut(t *testing.T) {
	for _, x := range written() {
		w, p := &bits.Writer{}, x.pair()
		if !Put(w, p.base, p.e) {
			t.Errorf("%s: it isn't put", x.name)
		}
		checkWriter(t, w, plain(x.bits))
		if got := packed(x.base, x.e); got != plain(x.bits) {
			t.Errorf("%s: the text has %s", x.name, got)
		}
	}
}

func TestPutTheseBytes(t *testing.T) {
	w := &bits.Writer{}
	base := api.Entity{ID: 2, Kind: 1, Health: 100}
	e := api.Entity{ID: 2, Kind: 1, At: api.Vec{X: 65536, Y: -65536}, Vel: api.Vec{X: 16384, Y: -16384}, Wait: 20}
	want := []byte{127, 64, 0, 196, 255, 191, 67, 64, 0, 193, 255, 191, 192, 163, 0, 20}
	if !Put(w, base, e) || w.Count() != 126 || !bytes.Equal(w.Bytes(), want) {
		t.Errorf("%d bits are put: %v", w.Count(), w.Bytes())
	}
}

func TestPutOfMany(t *testing.T) {
	for _, p := range pairs() {
		w := &bits.Writer{}
		if !Put(w, p.base, p.e) {
			t.Fatalf("%+v isn't put on %+v", p.e, p.base)
		}
		checkWriter(t, w, packed(rowOf(p.base), rowOf(p.e)))
	}
}

func TestPutBehindOtherBits(t *testing.T) {
	for _, x := range written() {
		for ahead := range 65 {
			w, p := &bits.Writer{}, x.pair()
			w.Put(greatest, ahead)
			other := &bits.Writer{}
			other.Put(greatest, ahead)
			begin := textOf(other.Bytes())[:ahead]
			if !Put(w, p.base, p.e) {
				t.Fatalf("%s isn't put behind %d bits", x.name, ahead)
			}
			checkWriter(t, w, begin+plain(x.bits))
		}
	}
}

// Two in one writer, the second behind the first.
func TestPutTwo(t *testing.T) {
	for _, x := range written() {
		for _, y := range written() {
			w, p, q := &bits.Writer{}, x.pair(), y.pair()
			if !Put(w, p.base, p.e) || !Put(w, q.base, q.e) {
				t.Fatalf("%s and %s aren't put", x.name, y.name)
			}
			checkWriter(t, w, plain(x.bits)+plain(y.bits))
		}
	}
}

// unformed are entities of all kinds that aren't formed.
func unformed() []api.Entity {
	l := []api.Entity{{}, {ID: 1}, {Kind: 1, Health: 100}, {ID: 9, Kind: 1, Health: 100}, {ID: 8, Kind: 2, Health: 100}, {ID: 1, Kind: 3, Health: 100}, {ID: 1, Health: 100}, {ID: 17, Kind: 2, Health: 100}}
	for _, e := range []api.Entity{somePlayer(), deadPlayer(), someBall()} {
		bounds := [6]int64{limit, limit, 65536, 65536, 100, 20}
		for i, most := range bounds {
			for _, number := range []int64{least, -most - 1, most + 1, greatest} {
				x := rowOf(e)
				x[i] = number
				l = append(l, entityOf(e.ID, e.Kind, x))
			}
		}
		both, neither := rowOf(e), rowOf(e)
		both[4], both[5] = 100, 20
		neither[4], neither[5] = 0, 0
		l = append(l, entityOf(e.ID, e.Kind, both), entityOf(e.ID, e.Kind, neither))
	}
	return l
}

// checkNonePut puts nothing, with and without bits that were put ahead.
func checkNonePut(t *testing.T, base, e api.Entity) {
	t.Helper()
	w := &bits.Writer{}
	if Put(w, base, e) {
		t.Fatalf("%+v is put on %+v", e, base)
	}
	checkWriter(t, w, "")
	w.Put(5, 3)
	w.Small(-70)
	if Put(w, base, e) {
		t.Fatalf("%+v is put on %+v behind others", e, base)
	}
	checkWriter(t, w, "101"+"11101000"+"01000000")
	if Put(nil, base, e) {
		t.Fatalf("%+v is put on %+v without a writer", e, base)
	}
}

func TestPutOfUnformed(t *testing.T) {
	for _, e := range unformed() {
		if formed(e) {
			t.Fatalf("%+v is formed as the text has it", e)
		}
		checkNonePut(t, e, e)
		checkNonePut(t, entityOf(e.ID, e.Kind, row{0, 0, 0, 0, 100, 0}), e)
		checkNonePut(t, api.Entity{}, e)
		checkNonePut(t, somePlayer(), e)
		checkNonePut(t, someBall(), e)
	}
}

// Only the ID and the Kind of a base count.
func TestPutOnUnformed(t *testing.T) {
	for _, base := range unformed() {
		for _, e := range []api.Entity{somePlayer(), deadPlayer(), someBall(), {ID: 1, Kind: 1, Wait: 20}} {
			if base.ID != e.ID || base.Kind != e.Kind {
				checkNonePut(t, base, e)
				continue
			}
			w := &bits.Writer{}
			if !Put(w, base, e) {
				t.Fatalf("%+v isn't put on %+v", e, base)
			}
			checkWriter(t, w, packed(rowOf(base), rowOf(e)))
		}
	}
}

func TestPutOnAnother(t *testing.T) {
	for id := 1; id <= 16; id++ {
		e := withID(id)
		for _, other := range []int{least, -id, 0, 1, 2, 8, 9, 16, 17, id - 1, id + 1, 1<<32 + id, greatest} {
			base := e
			base.ID = other
			if other != id {
				checkNonePut(t, base, e)
			}
			// One that is formed by itself is no base either.
			if base = withID(other); other != id {
				checkNonePut(t, base, e)
			}
		}
		for _, kind := range []int{least, -1, 0, 3 - e.Kind, 3, 1<<32 + e.Kind, greatest} {
			base := e
			base.Kind = kind
			checkNonePut(t, base, e)
		}
	}
}

func TestPutWithoutAWriter(t *testing.T) {
	for _, p := range pairs() {
		if !Put(nil, p.base, p.e) {
			t.Fatalf("%+v isn't put on %+v", p.e, p.base)
		}
	}
}
