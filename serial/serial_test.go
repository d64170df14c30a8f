package serial

import "testing"

// starts are numbers at both ends, in the middle, and a window's width around them.
func starts() []uint16 {
	return []uint16{0, 1, 2, 31, 32, 33, 34, 5000, 32735, 32766, 32767, 32768, 32769, 65502, 65503, 65504, 65534, 65535}
}

// masks are of none, of all, of each single number, of all but one, and mixed.
func masks() []uint32 {
	all := []uint32{0, 0xffffffff, 0x55555555, 0xaaaaaaaa, 0xffff0000, 0x0000ffff, 0x80000001, 0x7ffffffe, 0x12345678}
	for i := range 32 {
		all = append(all, 1<<i, ^uint32(1<<i))
	}
	return all
}

func window(last uint16, mask uint32) Window {
	return Window{Any: true, Last: last, Mask: mask}
}

func TestLaterAndStepsByHand(t *testing.T) {
	cases := []struct {
		a, b  uint16
		later bool
		steps int
	}{
		{65535, 0, true, 1},
		{0, 65535, false, -1},
		{0, 0, false, 0},
		{65535, 65535, false, 0},
		{32768, 32768, false, 0},
		{0, 1, true, 1},
		{1, 0, false, -1},
		{5, 2, false, -3},
		{2, 5, true, 3},
		{0, 32767, true, 32767},
		{32767, 0, false, -32767},
		{0, 32768, false, -32768},
		{32768, 0, false, -32768},
		{0, 32769, false, -32767},
		{32769, 0, true, 32767},
		{65535, 32766, true, 32767},
		{65535, 32767, false, -32768},
		{32767, 65535, false, -32768},
		{40000, 7231, true, 32767},
		{40000, 7232, false, -32768},
		{40000, 7233, false, -32767},
		{65500, 100, true, 136},
		{100, 65500, false, -136},
	}
	for _, c := range cases {
		if got := Later(c.a, c.b); got != c.later {
			t.Errorf("Later(%d, %d) = %v", c.a, c.b, got)
		}
		if got := Steps(c.a, c.b); got != c.steps {
			t.Errorf("Steps(%d, %d) = %d, not %d", c.a, c.b, got, c.steps)
		}
	}
}

// next is one step on, told without numbers that go round by themselves.
func next(n uint16) uint16 {
	if n == 65535 {
		return 0
	}
	return n + 1
}

func TestLaterAndStepsByWalking(t *testing.T) {
	for _, a := range starts() {
		b := a
		for walked := range 65536 {
			want := walked
			if walked > 32767 {
				want = walked - 65536
			}
			if got := Steps(a, b); got != want {
				t.Fatalf("Steps(%d, %d) = %d, not %d", a, b, got, want)
			}
			if got := Later(a, b); got != (1 <= walked && walked <= 32767) {
				t.Fatalf("Later(%d, %d) = %v, %d steps on", a, b, got, walked)
			}
			b = next(b)
		}
		if b != a {
			t.Fatalf("the walk from %d ended at %d", a, b)
		}
	}
}

func TestTakeByHand(t *testing.T) {
	cases := []struct {
		name string
		w    Window
		n    uint16
		want Window
		new  bool
	}{
		{"the first of all", Window{}, 9, window(9, 0), true},
		{"the first of all, 0", Window{}, 0, window(0, 0), true},
		{"the first of all, 65535", Window{}, 65535, window(65535, 0), true},
		{"none came, a mask", Window{Mask: 0xffffffff}, 9, window(9, 0), true},
		{"none came, the same last", Window{Last: 9, Mask: 5}, 9, window(9, 0), true},
		{"none came, a last behind", Window{Last: 10, Mask: 1}, 9, window(9, 0), true},
		{"none came, a last ahead", Window{Last: 8, Mask: 1}, 9, window(9, 0), true},
		{"none came, a last far off", Window{Last: 32777}, 9, window(9, 0), true},
		{"the same again", window(9, 5), 9, window(9, 5), false},
		{"forward by 1", window(9, 0), 10, window(10, 1), true},
		{"forward by 1, with a mask", window(9, 0x80000001), 10, window(10, 3), true},
		{"forward by 2", window(9, 0), 11, window(11, 2), true},
		{"forward by 31", window(9, 3), 40, window(40, 0xc0000000), true},
		{"forward by 32", window(9, 0xffffffff), 41, window(41, 0x80000000), true},
		{"forward by 33", window(9, 0xffffffff), 42, window(42, 0), true},
		{"forward by 34", window(9, 0xffffffff), 43, window(43, 0), true},
		{"forward by 64", window(9, 0xffffffff), 73, window(73, 0), true},
		{"forward by 65", window(9, 0xffffffff), 74, window(74, 0), true},
		{"forward by 256", window(9, 0xffffffff), 265, window(265, 0), true},
		{"forward by 257", window(9, 0xffffffff), 266, window(266, 0), true},
		{"forward by 32767", window(9, 0xffffffff), 32776, window(32776, 0), true},
		{"forward, around the end", window(65535, 1), 0, window(0, 3), true},
		{"forward by 32, around the end", window(65520, 1), 16, window(16, 0x80000000), true},
		{"forward by 33, around the end", window(65520, 1), 17, window(17, 0), true},
		{"32768 ahead", window(9, 0), 32777, window(9, 0), false},
		{"32767 ahead", window(9, 0), 32778, window(9, 0), false},
		{"1 ahead", window(9, 2), 8, window(9, 3), true},
		{"1 ahead, came", window(9, 3), 8, window(9, 3), false},
		{"2 ahead", window(9, 1), 7, window(9, 3), true},
		{"31 ahead", window(100, 0), 69, window(100, 0x40000000), true},
		{"32 ahead", window(100, 1), 68, window(100, 0x80000001), true},
		{"32 ahead, came", window(100, 0x80000000), 68, window(100, 0x80000000), false},
		{"33 ahead", window(100, 1), 67, window(100, 1), false},
		{"34 ahead", window(100, 0), 66, window(100, 0), false},
		{"65 ahead", window(100, 0), 35, window(100, 0), false},
		{"32 ahead, around the end", window(7, 3), 65511, window(7, 3|1<<31), true},
		{"33 ahead, around the end", window(7, 3), 65510, window(7, 3), false},
		{"1 ahead of 0", window(0, 0), 65535, window(0, 1), true},
		{"1 ahead of 0, came", window(0, 1), 65535, window(0, 1), false},
	}
	for _, c := range cases {
		got, isNew := Take(c.w, c.n)
		if got != c.want || isNew != c.new {
			t.Errorf("%s: Take(%v, %d) = %v, %v", c.name, c.w, c.n, got, isNew)
		}
	}
}

func TestTakeTheExample(t *testing.T) {
	var w Window
	for _, n := range []uint16{5, 7, 6} {
		var isNew bool
		if w, isNew = Take(w, n); !isNew {
			t.Errorf("%d wasn't new", n)
		}
	}
	if w != window(7, 3) {
		t.Errorf("5, 7, 6 make %v", w)
	}
	for _, n := range []uint16{5, 6, 7} {
		after, isNew := Take(w, n)
		if isNew || after != w {
			t.Errorf("%d again: %v, %v", n, after, isNew)
		}
	}
}

func TestHasByHand(t *testing.T) {
	cases := []struct {
		w    Window
		n    uint16
		want bool
	}{
		{Window{}, 0, false},
		{Window{}, 65535, false},
		{Window{Last: 9, Mask: 0xffffffff}, 9, false},
		{Window{Last: 9, Mask: 0xffffffff}, 8, false},
		{Window{Last: 9, Mask: 0xffffffff}, 10, false},
		{window(9, 0), 9, true},
		{window(9, 0), 8, false},
		{window(9, 1), 8, true},
		{window(9, 0xfffffffe), 8, false},
		{window(9, 0xffffffff), 10, false},
		{window(9, 0xffffffff), 41, false},
		{window(9, 0xffffffff), 32776, false},
		{window(9, 0xffffffff), 32777, false},
		{window(9, 0xffffffff), 32778, false},
		{window(100, 0x80000000), 68, true},
		{window(100, 0x7fffffff), 68, false},
		{window(100, 0xffffffff), 67, false},
		{window(100, 0xffffffff), 36, false},
		{window(7, 1<<31), 65511, true},
		{window(7, 0xffffffff), 65510, false},
		{window(0, 1), 65535, true},
		{window(65535, 0xffffffff), 0, false},
	}
	for _, c := range cases {
		if got := Has(c.w, c.n); got != c.want {
			t.Errorf("Has(%v, %d) = %v", c.w, c.n, got)
		}
	}
}
