package fix

import (
	"math"
	"math/big"
	"testing"

	"ricochet/api"
)

const (
	most     = api.Fix(api.MostFix)
	lowest   = api.Fix(-api.MostFix - 1)
	farAbove = api.Fix(math.MaxInt64)
	farBelow = api.Fix(math.MinInt64)
)

// samples are numbers, and what is handed in from outside of them.
func samples() []api.Fix {
	up := []api.Fix{
		0, 1, 2, 3, 255, 256, 257, 32767, 32768, 46340, 46341,
		65535, 65536, 65537, 98304, 131072, 3 * 65536, 1<<24 - 1, 1 << 24,
		1<<30 - 1, 1 << 30, 1 << 30 * 3 / 2, most - 1, most,
		most + 1, most + 2, 1<<32 + 5, 1 << 47, 1<<62 + 1, farAbove - 1, farAbove,
	}
	all := []api.Fix{farBelow, farBelow + 1}
	for _, a := range up {
		all = append(all, a, -a)
	}
	// A fixed rule in place of chance: the same samples at every run.
	x := uint64(1)
	for range 60 {
		x = x*6364136223846793005 + 1442695040888963407
		all = append(all, api.Fix(int32(x>>32)), api.Fix(int64(x)), api.Fix(int32(x>>32)>>12))
	}
	return all
}

func exact(a api.Fix) *big.Int { return big.NewInt(int64(a)) }

// holdBig is Hold, reckoned without bounds.
func holdBig(x *big.Int) *big.Int {
	if x.Cmp(exact(lowest)) < 0 {
		return exact(lowest)
	}
	if x.Cmp(exact(most)) > 0 {
		return exact(most)
	}
	return x
}

// downBig is n / d, rounded down.
func downBig(n, d *big.Int) *big.Int {
	q, r := new(big.Int).QuoRem(n, d, new(big.Int))
	if r.Sign()*d.Sign() < 0 {
		q.Sub(q, big.NewInt(1))
	}
	return q
}

func wantBig(t *testing.T, call string, a, b api.Fix, got api.Fix, want *big.Int) {
	t.Helper()
	if exact(got).Cmp(want) != 0 {
		t.Errorf("%s(%d, %d) = %d, want %s", call, a, b, got, want)
	}
}

func TestHold(t *testing.T) {
	cases := []struct {
		x    int64
		want api.Fix
	}{
		{0, 0}, {1, 1}, {-1, -1}, {65536, 65536},
		{1<<31 - 1, most}, {1 << 31, most}, {math.MaxInt64, most},
		{1<<31 - 2, most - 1}, {-1<<31 + 1, lowest + 1},
		{-1 << 31, lowest}, {-1<<31 - 1, lowest}, {math.MinInt64, lowest},
		{1 << 32, most}, {-1 << 32, lowest},
	}
	for _, c := range cases {
		if got := Hold(c.x); got != c.want {
			t.Errorf("Hold(%d) = %d, want %d", c.x, got, c.want)
		}
	}
}

func TestOf(t *testing.T) {
	cases := []struct {
		n    int
		want api.Fix
	}{
		{0, 0}, {1, 65536}, {-1, -65536}, {-3, -196608}, {40, 40 * 65536},
		{32767, 32767 * 65536}, {32768, most}, {40000, most},
		{-32768, lowest}, {-32769, lowest},
		{1 << 31, most}, {math.MaxInt, most}, {math.MinInt, lowest},
		{1 << 48, most}, {-1 << 48, lowest},
	}
	for _, c := range cases {
		if got := Of(c.n); got != c.want {
			t.Errorf("Of(%d) = %d, want %d", c.n, got, c.want)
		}
	}
}

func TestAddSub(t *testing.T) {
	cases := []struct{ a, b, sum, difference api.Fix }{
		{1, 2, 3, -1}, {-5, 3, -2, -8}, {0, 0, 0, 0},
		{most, 1, most, most - 1}, {most, most, most, 0},
		{lowest, -1, lowest, lowest + 1}, {lowest, lowest, lowest, 0},
		{lowest, most, -1, lowest}, {most, lowest, -1, most},
		{0, lowest, lowest, most}, {-1, lowest, lowest, most},
		{farAbove, farAbove, most, 0}, {farBelow, farBelow, lowest, 0},
		{farAbove, -1, most - 1, most}, {farBelow, 1, lowest + 1, lowest},
		{farAbove, farBelow, -1, most},
	}
	for _, c := range cases {
		if got := Add(c.a, c.b); got != c.sum {
			t.Errorf("Add(%d, %d) = %d, want %d", c.a, c.b, got, c.sum)
		}
		if got := Sub(c.a, c.b); got != c.difference {
			t.Errorf("Sub(%d, %d) = %d, want %d", c.a, c.b, got, c.difference)
		}
	}
}

func TestMul(t *testing.T) {
	cases := []struct{ a, b, want api.Fix }{
		{98304, 98304, 147456}, {65536, 65536, 65536}, {0, most, 0},
		{1, 1, 0}, {-1, 1, -1}, {1, -1, -1}, {-1, -1, 0},
		{65536, most, most}, {65536, lowest, lowest}, {-65536, lowest, most},
		{1 << 30, 1 << 30, most}, {-1 << 30, 1 << 30, lowest},
		{most, most, most}, {lowest, lowest, most}, {lowest, most, lowest},
		{32768, 3, 1}, {32768, -3, -2},
		{farAbove, 32768, most >> 1}, {farBelow, 32768, lowest / 2},
		{farBelow, farBelow, most}, {farBelow, farAbove, lowest},
	}
	for _, c := range cases {
		if got := Mul(c.a, c.b); got != c.want {
			t.Errorf("Mul(%d, %d) = %d, want %d", c.a, c.b, got, c.want)
		}
	}
}

func TestDiv(t *testing.T) {
	cases := []struct{ a, b, want api.Fix }{
		{65536, 3 * 65536, 21845}, {-65536, 3 * 65536, -21846},
		{65536, -3 * 65536, -21846}, {-65536, -3 * 65536, 21845},
		{131072, 65536, 131072}, {-131072, 65536, -131072}, {0, 7, 0}, {0, -7, 0},
		{0, 0, 0}, {1, 0, most}, {-1, 0, lowest},
		{most, 0, most}, {lowest, 0, lowest}, {farAbove, 0, most}, {farBelow, 0, lowest},
		{most, 1, most}, {most, -1, lowest}, {lowest, 1, lowest}, {lowest, -1, most},
		{1, most, 0}, {-1, most, -1}, {1, lowest, -1},
		{farAbove, 131072, most >> 1}, {farBelow, 131072, lowest / 2},
		{most, farAbove, 65536}, {lowest, farBelow, 65536},
	}
	for _, c := range cases {
		if got := Div(c.a, c.b); got != c.want {
			t.Errorf("Div(%d, %d) = %d, want %d", c.a, c.b, got, c.want)
		}
	}
}

func TestSqrt(t *testing.T) {
	cases := []struct{ a, want api.Fix }{
		{0, 0}, {1, 256}, {2, 362}, {4, 512}, {65535, 65535}, {65536, 65536}, {65537, 65536},
		{131072, 92681}, {4 * 65536, 131072}, {4*65536 - 1, 131071}, {9 * 65536, 3 * 65536},
		{most, 11863283}, {farAbove, 11863283},
		{-1, 0}, {-65536, 0}, {lowest, 0}, {farBelow, 0},
	}
	for _, c := range cases {
		if got := Sqrt(c.a); got != c.want {
			t.Errorf("Sqrt(%d) = %d, want %d", c.a, got, c.want)
		}
	}
}

func TestFloor(t *testing.T) {
	cases := []struct {
		a    api.Fix
		want int
	}{
		{0, 0}, {1, 0}, {65535, 0}, {65536, 1}, {98304, 1}, {131072, 2},
		{-1, -1}, {-65535, -1}, {-65536, -1}, {-65537, -2}, {-98304, -2},
		{most, 32767}, {lowest, -32768}, {farAbove, 32767}, {farBelow, -32768},
	}
	for _, c := range cases {
		if got := Floor(c.a); got != c.want {
			t.Errorf("Floor(%d) = %d, want %d", c.a, got, c.want)
		}
	}
}

func TestBetween(t *testing.T) {
	cases := []struct {
		a, b api.Fix
		part uint8
		want api.Fix
	}{
		{0, 512, 128, 256}, {512, 0, 1, 510}, {-5, -5, 200, -5},
		{7, 900, 0, 7}, {900, 7, 0, 900}, {0, 256, 255, 255}, {256, 0, 255, 1},
		{0, 1, 255, 0}, {1, 0, 255, 0}, {0, -1, 1, -1}, {-1, 0, 1, -1}, {1, 0, 1, 0},
		{lowest, most, 0, lowest}, {lowest, most, 128, -1}, {lowest, most, 255, 2130706431},
		{most, lowest, 0, most}, {most, lowest, 128, -1}, {most, lowest, 255, -2130706433},
		{farBelow, farAbove, 128, -1}, {farAbove, farAbove, 255, most}, {farAbove, 0, 0, most},
		{farBelow, 0, 0, lowest}, {0, farAbove, 128, most >> 1},
	}
	for _, c := range cases {
		if got := Between(c.a, c.b, c.part); got != c.want {
			t.Errorf("Between(%d, %d, %d) = %d, want %d", c.a, c.b, c.part, got, c.want)
		}
	}
}

// What the calls of two numbers answer, against the same without any bounds.
func TestAgainstExactPairs(t *testing.T) {
	one := big.NewInt(api.One)
	for _, a := range samples() {
		for _, b := range samples() {
			x, y := holdBig(exact(a)), holdBig(exact(b))
			wantBig(t, "Add", a, b, Add(a, b), holdBig(new(big.Int).Add(x, y)))
			wantBig(t, "Sub", a, b, Sub(a, b), holdBig(new(big.Int).Sub(x, y)))
			wantBig(t, "Mul", a, b, Mul(a, b), holdBig(downBig(new(big.Int).Mul(x, y), one)))
			if y.Sign() != 0 {
				wantBig(t, "Div", a, b, Div(a, b), holdBig(downBig(new(big.Int).Mul(x, one), y)))
			}
			for _, part := range []uint8{0, 1, 127, 128, 254, 255} {
				way := new(big.Int).Sub(y, x)
				way.Mul(way, big.NewInt(int64(part)))
				wantBig(t, "Between", a, b, Between(a, b, part), way.Add(x, downBig(way, big.NewInt(256))))
			}
		}
	}
}

func TestAgainstExactSingles(t *testing.T) {
	one := big.NewInt(api.One)
	for _, a := range samples() {
		x := holdBig(exact(a))
		wantBig(t, "Hold", a, 0, Hold(int64(a)), x)
		wantBig(t, "Of", a, 0, Of(int(a)), holdBig(new(big.Int).Mul(exact(a), one)))
		wantBig(t, "Floor", a, 0, api.Fix(Floor(a)), downBig(x, one))
		root := new(big.Int)
		if x.Sign() > 0 {
			root.Sqrt(new(big.Int).Mul(x, one))
		}
		wantBig(t, "Sqrt", a, 0, Sqrt(a), root)
	}
}

// Around each square the root turns from one number to the next.
func TestSqrtAroundSquares(t *testing.T) {
	for root := int64(256); root < 11863283; root += 997 {
		square := root * root
		a := api.Fix((square + api.One - 1) / api.One)
		if got := Sqrt(a); int64(got) < root {
			t.Errorf("Sqrt(%d) = %d, want at least %d", a, got, root)
		}
		if got := Sqrt(a - 1); int64(got) >= root {
			t.Errorf("Sqrt(%d) = %d, want below %d", a-1, got, root)
		}
	}
}

func TestAllAnswersAreNumbers(t *testing.T) {
	number := func(call string, a, b, got api.Fix) {
		if got < lowest || got > most {
			t.Errorf("%s(%d, %d) = %d, no number", call, a, b, got)
		}
	}
	for _, a := range samples() {
		number("Hold", a, 0, Hold(int64(a)))
		number("Of", a, 0, Of(int(a)))
		number("Sqrt", a, 0, Sqrt(a))
		number("Floor", a, 0, api.Fix(Floor(a)))
		for _, b := range samples() {
			number("Add", a, b, Add(a, b))
			number("Sub", a, b, Sub(a, b))
			number("Mul", a, b, Mul(a, b))
			number("Div", a, b, Div(a, b))
			number("Between", a, b, Between(a, b, 0))
			number("Between", a, b, Between(a, b, 255))
		}
	}
}

func TestWhichStandsFirst(t *testing.T) {
	for _, a := range samples() {
		for _, b := range samples() {
			if Add(a, b) != Add(b, a) {
				t.Errorf("Add(%d, %d) = %d, the other way %d", a, b, Add(a, b), Add(b, a))
			}
			if Mul(a, b) != Mul(b, a) {
				t.Errorf("Mul(%d, %d) = %d, the other way %d", a, b, Mul(a, b), Mul(b, a))
			}
		}
	}
}

func TestNoFallWhereOneRises(t *testing.T) {
	for _, low := range samples() {
		for _, high := range append(samples(), low+1) {
			if low > high {
				continue
			}
			for _, k := range samples() {
				if Add(low, k) > Add(high, k) {
					t.Errorf("Add by %d falls from %d to %d", k, low, high)
				}
				if k >= 0 && Mul(low, k) > Mul(high, k) {
					t.Errorf("Mul by %d falls from %d to %d", k, low, high)
				}
			}
		}
	}
}
