package command

import (
	"slices"
	"testing"

	"ricochet/api"
	"ricochet/bits"
)

// checkPutAndTaken puts bits ahead, a row and bits behind, and takes them all.
func checkPutAndTaken(t *testing.T, l []api.Command, x uint64, ahead int) {
	t.Helper()
	var w bits.Writer
	w.Put(x, ahead)
	if !Put(&w, l) {
		t.Fatalf("%v isn't put", l)
	}
	w.Put(5, 3)
	r := bits.New(w.Bytes())
	r.Take(ahead)
	checkTaken(t, r, l)
	if r.Take(3) != 5 || !r.Done() {
		t.Fatalf("behind %v it isn't as it was put", l)
	}
}

func TestWhatIsPutIsTaken(t *testing.T) {
	r := rule(94)
	for _, l := range rows() {
		for ahead := range 65 {
			checkPutAndTaken(t, l, r.word(), ahead)
		}
	}
}

func TestEachWayIsTaken(t *testing.T) {
	for x := -127; x <= 127; x++ {
		for y := -127; y <= 127; y++ {
			checkPutAndTaken(t, []api.Command{{Number: 1, MX: int8(x), MY: int8(y)}}, 0, 0)
		}
	}
}

func TestEachViewAndFracIsTaken(t *testing.T) {
	views := []uint32{0, 1 << 31, 1<<31 - 1, 0x12345678, 0x55555555}
	for i := range 31 {
		views = append(views, 1<<i)
	}
	for _, view := range views {
		for frac := range 256 {
			checkPutAndTaken(t, []api.Command{{Number: 1, Fire: true, View: view, Frac: uint8(frac)}}, 1, 1)
		}
	}
}

func TestEachBitOfTheNumberIsTaken(t *testing.T) {
	for i := range 32 {
		checkPutAndTaken(t, from(1<<i, 1), 0, 0)
	}
	for _, n := range []uint32{0x12345678, 0x55555555, 0x2aaaaaaa, 1<<31 - 1} {
		checkPutAndTaken(t, from(n, 1), 0, 0)
	}
}

// Lists that are put one behind the other, with other bits between them, and
// with lists of which nothing is put.
func TestManyRowsAreTakenInOrder(t *testing.T) {
	rule := rule(95)
	none := noRows()
	for range 200 {
		var w bits.Writer
		var all [][]api.Command
		var widths []int
		for range 1 + rule.below(20) {
			n := 1 + rule.below(api.MaxCommands)
			l := rule.row(1+uint32(rule.below(1<<31-n+1)), n)
			width := rule.below(65)
			all, widths = append(all, l), append(widths, width)
			w.Put(rule.word(), width)
			for _, other := range none {
				Put(&w, other)
			}
			if !Put(&w, l) {
				t.Fatalf("%v isn't put", l)
			}
		}
		r := bits.New(w.Bytes())
		for i, l := range all {
			r.Take(widths[i])
			checkTaken(t, r, l)
		}
		if !r.Done() {
			t.Fatalf("%d bits are left", r.Left())
		}
	}
}

// A row that is taken is one, and has the bits that it was taken of.
func TestWhatIsTakenIsPutAgain(t *testing.T) {
	rule := rule(96)
	for range 3000 {
		b := rule.bytes(70)
		r := bits.New(b)
		l, ok := Take(r)
		if !ok {
			continue
		}
		if !Row(l) {
			t.Fatalf("%v is taken, and is no row", l)
		}
		var w bits.Writer
		Put(&w, l)
		checkWriter(t, &w, textOf(b)[:8*len(b)-r.Left()])
		again, _ := Take(bits.New(w.Bytes()))
		if !slices.Equal(again, l) {
			t.Fatalf("%v is %v again", l, again)
		}
	}
}
