package command

import (
	"testing"

	"ricochet/api"
)

func TestFormedByHand(t *testing.T) {
	cases := []struct {
		name string
		c    api.Command
		want bool
	}{
		{"all zero", api.Command{}, false},
		{"a number alone", api.Command{Number: 1}, true},
		{"an ordinary one", api.Command{Number: 5, MX: -12, MY: 100}, true},
		{"an ordinary one that fires", api.Command{Number: 6, MX: 3, MY: -4, Fire: true, View: 9, Frac: 128}, true},

		{"number 0 that fires", api.Command{Fire: true, View: 9}, false},
		{"number 0 with a way", api.Command{MX: 1, MY: 1}, false},
		{"number 2", api.Command{Number: 2}, true},
		{"number 2^31 - 1", api.Command{Number: 1<<31 - 1}, true},
		{"number 2^31", api.Command{Number: 1 << 31}, true},
		{"number 2^31 that fires", api.Command{Number: 1 << 31, Fire: true}, true},
		{"number 2^31 + 1", api.Command{Number: 1<<31 + 1}, false},
		{"number 2^31 + 1 that fires", api.Command{Number: 1<<31 + 1, Fire: true}, false},
		{"the greatest number", api.Command{Number: greatest}, false},

		{"MX -128", api.Command{Number: 1, MX: -128}, false},
		{"MX -127", api.Command{Number: 1, MX: -127}, true},
		{"MX 127", api.Command{Number: 1, MX: 127}, true},
		{"MY -128", api.Command{Number: 1, MY: -128}, false},
		{"MY -127", api.Command{Number: 1, MY: -127}, true},
		{"MY 127", api.Command{Number: 1, MY: 127}, true},
		{"both -128", api.Command{Number: 1, MX: -128, MY: -128}, false},
		{"MX -128 that fires", api.Command{Number: 1, MX: -128, Fire: true}, false},
		{"MY -128 that fires", api.Command{Number: 1, MY: -128, Fire: true}, false},

		{"a view without fire", api.Command{Number: 1, View: 1}, false},
		{"a view of 2^31 without fire", api.Command{Number: 1, View: 1 << 31}, false},
		{"a frac without fire", api.Command{Number: 1, Frac: 1}, false},
		{"a frac of 255 without fire", api.Command{Number: 1, Frac: 255}, false},
		{"a view and a frac without fire", api.Command{Number: 1, View: 9, Frac: 128}, false},

		{"fire, and neither", api.Command{Number: 1, Fire: true}, true},
		{"fire with a view alone", api.Command{Number: 1, Fire: true, View: 1}, true},
		{"fire with a frac alone", api.Command{Number: 1, Fire: true, Frac: 1}, true},
		{"fire with the greatest frac", api.Command{Number: 1, Fire: true, Frac: 255}, true},
		{"fire with a view of 2^31 - 1", api.Command{Number: 1, Fire: true, View: 1<<31 - 1}, true},
		{"fire with a view of 2^31", api.Command{Number: 1, Fire: true, View: 1 << 31}, true},
		{"fire with a view of 2^31 and a frac", api.Command{Number: 1, Fire: true, View: 1 << 31, Frac: 255}, true},
		{"fire with a view of 2^31 + 1", api.Command{Number: 1, Fire: true, View: 1<<31 + 1}, false},
		{"fire with the greatest view", api.Command{Number: 1, Fire: true, View: greatest}, false},
		{"a view ahead of the number", api.Command{Number: 1, Fire: true, View: 1000}, true},
	}
	for _, c := range cases {
		if got := Formed(c.c); got != c.want {
			t.Errorf("%s: %v", c.name, got)
		}
	}
}

func TestFormedOfAllWays(t *testing.T) {
	for x := -128; x <= 127; x++ {
		for y := -128; y <= 127; y++ {
			want := x >= -127 && y >= -127
			still := api.Command{Number: 7, MX: int8(x), MY: int8(y)}
			firing := still
			firing.Fire, firing.View, firing.Frac = true, 9, 1
			if Formed(still) != want || Formed(firing) != want {
				t.Fatalf("%d, %d: %v, %v", x, y, Formed(still), Formed(firing))
			}
		}
	}
}

// Each number with each view and each frac, where either may be beyond its edge.
func TestFormedOfAllEdgesTogether(t *testing.T) {
	edges := []uint32{0, 1, 2, 127, 128, 255, 256, 1<<16 - 1, 1 << 16, 1<<31 - 1, 1 << 31, 1<<31 + 1, greatest - 1, greatest}
	for _, n := range edges {
		for _, view := range edges {
			for frac := range 256 {
				numbered := n >= 1 && n <= 1<<31
				still := api.Command{Number: n, View: view, Frac: uint8(frac)}
				if got, want := Formed(still), numbered && view == 0 && frac == 0; got != want {
					t.Fatalf("%v: %v", still, got)
				}
				firing := still
				firing.Fire = true
				if got, want := Formed(firing), numbered && view <= 1<<31; got != want {
					t.Fatalf("%v: %v", firing, got)
				}
			}
		}
	}
}
