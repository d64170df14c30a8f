package entity

import (
	"bytes"
	"math"
	"math/big"
	"strings"
	"testing"

	"ricochet/api"
	"ricochet/bits"
)

const (
	least    = math.MinInt64
	greatest = math.MaxInt64
	limit    = 134217728
)

// row is an entity's fields, in order.
type row [6]int64

func rowOf(e api.Entity) row {
	return row{int64(e.At.X), int64(e.At.Y), int64(e.Vel.X), int64(e.Vel.Y), int64(e.Health), int64(e.Wait)}
}

func entityOf(id, kind int, x row) api.Entity {
	return api.Entity{
		ID:     id,
		Kind:   kind,
		At:     api.Vec{X: api.Fix(x[0]), Y: api.Fix(x[1])},
		Vel:    api.Vec{X: api.Fix(x[2]), Y: api.Fix(x[3])},
		Health: int(x[4]),
		Wait:   int(x[5]),
	}
}

// formed is what Formed must answer, asked of the numbers one by one.
func formed(e api.Entity) bool {
	x := rowOf(e)
	bounds := [6][2]int64{{-limit, limit}, {-limit, limit}, {-65536, 65536}, {-65536, 65536}, {0, 100}, {0, 20}}
	for i, b := range bounds {
		if x[i] < b[0] || x[i] > b[1] {
			return false
		}
	}
	isPlayer := e.Kind == 1 && e.ID >= 1 && e.ID <= 8 && (e.Health == 0) != (e.Wait == 0)
	isBall := e.Kind == 2 && e.ID >= 9 && e.ID <= 16 && e.Health == 100 && e.Wait == 0
	return isPlayer || isBall
}

// text is bits told otherwise: 0 and 1, the first bit first. Those that are
// written out have blanks between the parts.
type text string

func plain(parts text) text {
	return text(strings.Join(strings.Fields(string(parts)), ""))
}

// digits are so many bits of x, the lowest one first.
func digits(x *big.Int, n int) text {
	var told text
	for i := range n {
		told += text("01"[x.Bit(i)])
	}
	return told
}

// small is x as a small number, told without numbers that go round.
func small(x *big.Int) text {
	n := new(big.Int).Mul(x, big.NewInt(2))
	if x.Sign() < 0 {
		n.Neg(n).Sub(n, big.NewInt(1))
	}
	var told text
	for n.BitLen() > 7 {
		told += "1" + digits(n, 7)
		n.Rsh(n, 7)
	}
	return told + "0" + digits(n, 7)
}

// round is the number of 64 bits, with a sign, that x goes round to.
func round(x *big.Int) *big.Int {
	whole := new(big.Int).Lsh(big.NewInt(1), 64)
	half := new(big.Int).Lsh(big.NewInt(1), 63)
	held := new(big.Int).Add(x, half)
	held.Mod(held, whole)
	return held.Sub(held, half)
}

// packed is what e's bits on base must be, whether it is formed or not.
func packed(base, e row) text {
	var others, differences text
	for i := range e {
		if e[i] == base[i] {
			others += "0"
			continue
		}
		others += "1"
		differences += small(round(new(big.Int).Sub(big.NewInt(e[i]), big.NewInt(base[i]))))
	}
	return others + differences
}

// bytes are x's bytes, the last one filled up with 0.
func (x text) bytes() []byte {
	powers := [8]byte{1, 2, 4, 8, 16, 32, 64, 128}
	b := make([]byte, (len(x)+7)/8)
	for i := range x {
		if x[i] == '1' {
			b[i/8] += powers[i%8]
		}
	}
	return b
}

func textOf(b []byte) text {
	var told text
	for _, one := range b {
		told += digits(big.NewInt(int64(one)), 8)
	}
	return told
}

// unsmall is the small number with which x begins, and what comes behind it.
func (x text) unsmall() (*big.Int, text, bool) {
	n := new(big.Int)
	for at := 0; ; at++ {
		if len(x) < 8 {
			return nil, "", false
		}
		part := new(big.Int)
		for i := 1; i < 8; i++ {
			part.SetBit(part, i-1, uint(x[i]-'0'))
		}
		n.Add(n, new(big.Int).Lsh(part, uint(7*at)))
		more := x[0] == '1'
		x = x[8:]
		if more {
			continue
		}
		if at > 0 && part.Sign() == 0 || n.BitLen() > 64 {
			return nil, "", false
		}
		half := new(big.Int).Rsh(n, 1)
		if n.Bit(0) == 1 {
			half.Add(half, big.NewInt(1)).Neg(half)
		}
		return half, x, true
	}
}

// unpacked is the entity with which x begins, told on base, how many bits it has,
// and whether there is one.
func (x text) unpacked(base api.Entity) (api.Entity, int, bool) {
	if len(x) < 6 {
		return api.Entity{}, 0, false
	}
	fields, rest := rowOf(base), x[6:]
	for i := range fields {
		if x[i] == '0' {
			continue
		}
		d, behind, ok := rest.unsmall()
		if !ok || d.Sign() == 0 {
			return api.Entity{}, 0, false
		}
		fields[i], rest = round(d.Add(d, big.NewInt(fields[i]))).Int64(), behind
	}
	e := entityOf(base.ID, base.Kind, fields)
	if !formed(e) {
		return api.Entity{}, 0, false
	}
	return e, len(x) - len(rest), true
}

// rule is a fixed line of numbers that look like chance.
type rule uint64

func (r *rule) half() uint64 {
	*r = *r*6364136223846793005 + 1442695040888963407
	return uint64(*r) >> 32
}

func (r *rule) word() int64 { return int64(r.half()<<32 | r.half()) }

func (r *rule) below(n int) int { return int(r.half() % uint64(n)) }

// within is a number of -n to n, often one of the edges.
func (r *rule) within(n int) int64 {
	edges := []int64{int64(-n), int64(1 - n), -1, 0, 1, int64(n - 1), int64(n)}
	if r.below(2) == 0 {
		return edges[r.below(len(edges))]
	}
	return int64(r.below(2*n+1) - n)
}

// any is a number of all that there are, of each length.
func (r *rule) any() int64 {
	edges := []int64{least, least + 1, -1, 0, 1, greatest - 1, greatest}
	if r.below(4) == 0 {
		return edges[r.below(len(edges))]
	}
	return r.word() >> r.below(64)
}

func (r *rule) bytes(n int) []byte {
	b := make([]byte, n)
	for i := range b {
		b[i] = byte(r.half() >> 24)
	}
	return b
}

// entity is a formed one.
func (r *rule) entity(id int) api.Entity {
	x := row{r.within(limit), r.within(limit), r.within(65536), r.within(65536), 100, 0}
	if id > 8 {
		return entityOf(id, 2, x)
	}
	x[4] = int64(1 + r.below(100))
	if r.below(3) == 0 {
		x[4], x[5] = 0, int64(1+r.below(20))
	}
	return entityOf(id, 1, x)
}

// base is one that has e's ID and Kind: some fields are e's, some near to it, and
// some of them anything.
func (r *rule) base(e api.Entity) api.Entity {
	x := rowOf(e)
	for i := range x {
		switch r.below(4) {
		case 0:
			x[i] = r.any()
		case 1:
			x[i] += r.within(200)
		}
	}
	return entityOf(e.ID, e.Kind, x)
}

// pair is an entity, and what it is told on.
type pair struct{ base, e api.Entity }

// pairs are entities of all IDs, on bases that differ in none, in some and in all
// fields.
func pairs() []pair {
	r := rule(10)
	var l []pair
	for id := 1; id <= 16; id++ {
		e := r.entity(id)
		l = append(l, pair{e, e})
		for range 40 {
			e := r.entity(id)
			l = append(l, pair{r.entity(id), e}, pair{r.base(e), e})
		}
	}
	return l
}

func checkWriter(t *testing.T, w *bits.Writer, want text) {
	t.Helper()
	if got := w.Count(); got != len(want) {
		t.Fatalf("%d bits are put, not %d", got, len(want))
	}
	if got := w.Bytes(); !bytes.Equal(got, want.bytes()) {
		t.Fatalf("%v is put, not %v", got, want.bytes())
	}
}

// checkTaken takes an entity that must come next, and asks where the reader is
// then.
func checkTaken(t *testing.T, r *bits.Reader, base, want api.Entity) {
	t.Helper()
	left, count := r.Left(), len(packed(rowOf(base), rowOf(want)))
	got, ok := Take(r, base)
	if !ok || got != want {
		t.Fatalf("on %+v %+v, %v is taken, not %+v", base, got, ok, want)
	}
	if !r.OK() || left-r.Left() != count {
		t.Fatalf("of %d bits %d are taken, not %d; %v", left, left-r.Left(), count, r.OK())
	}
}

func checkNoneTaken(t *testing.T, r *bits.Reader, base api.Entity) {
	t.Helper()
	if got, ok := Take(r, base); ok || got != (api.Entity{}) {
		t.Fatalf("on %+v %+v, %v is taken", base, got, ok)
	}
}

// A reference that is wrong by itself would hide what it should show.
func TestTheTextsThemselves(t *testing.T) {
	if got := plain("101 1"); got != "1011" || got.bytes()[0] != 13 || textOf([]byte{13}) != "10110000" {
		t.Errorf("5 and 1 make %s, %v", got, got.bytes())
	}
	if got := small(big.NewInt(-3)); got != "01010000" {
		t.Errorf("-3 is %s", got)
	}
	for _, p := range pairs() {
		if !formed(p.e) {
			t.Errorf("%+v isn't formed", p.e)
		}
		x := packed(rowOf(p.base), rowOf(p.e))
		if got, count, ok := (x + "1").unpacked(p.base); got != p.e || count != len(x) || !ok {
			t.Errorf("on %+v %+v is %+v, of %d bits, %v", p.base, p.e, got, count, ok)
		}
	}
}
