package command

import (
	"slices"
	"testing"

	"ricochet/api"
)

// numbered is a list of commands with these numbers.
func numbered(numbers ...uint32) []api.Command {
	var l []api.Command
	for _, n := range numbers {
		l = append(l, api.Command{Number: n, MX: 1, MY: -1})
	}
	return l
}

// from is a list of n commands whose numbers rise by 1, round 2^32.
func from(first uint32, n int) []api.Command {
	var l []api.Command
	for i := range n {
		l = append(l, api.Command{Number: first + uint32(i)})
	}
	return l
}

// unformed are commands that differ from an unfiring one in what spoils it.
func unformed(c api.Command) []api.Command {
	still := api.Command{Number: c.Number}
	all := []api.Command{still, still, still, still, still, still, still}
	all[0].MX = -128
	all[1].MY = -128
	all[2].View = 1
	all[3].Frac = 1
	all[4].View, all[4].Frac = 1<<31, 255
	all[5].Fire, all[5].View = true, 1<<31+1
	all[6].Fire, all[6].View = true, greatest
	return all
}

// noRows are lists that are no rows, by all that can be amiss.
func noRows() map[string][]api.Command {
	return map[string][]api.Command{
		"none":                            nil,
		"none, empty":                     {},
		"none of a list of some":          from(1, 3)[:0],
		"a zero command":                  {{}},
		"number 0":                        from(0, 1),
		"from 0 on":                       from(0, 3),
		"number 2^31 + 1":                 from(1<<31+1, 1),
		"the greatest number":             from(greatest, 1),
		"beyond 2^31 with the second":     from(1<<31, 2),
		"beyond 2^31 with the last":       from(1<<31-6, 8),
		"beyond 2^31 with all":            from(1<<31+1, 8),
		"from the greatest to 0":          from(greatest, 2),
		"round 2^32":                      from(greatest-1, 5),
		"MaxCommands and one more":        from(1, api.MaxCommands+1),
		"two more":                        from(1, api.MaxCommands+2),
		"twice MaxCommands":               from(5, 2*api.MaxCommands),
		"257":                             from(1, 257),
		"65537":                           from(1, 65537),
		"nine zero commands":              make([]api.Command, 9),
		"numbers that stay":               numbered(5, 5),
		"numbers that stay at last":       numbered(5, 6, 6),
		"numbers that fall":               numbered(6, 5),
		"numbers that fall by more":       numbered(6, 7, 3),
		"numbers that leave one out":      numbered(1, 3),
		"that leave one out at last":      numbered(1, 2, 3, 5),
		"that leave one out and go on":    numbered(1, 3, 4, 5),
		"that leave many out":             numbered(1, 1<<31),
		"that rise by 2":                  numbered(2, 4, 6),
		"that leave one out and stay":     numbered(1, 3, 3),
		"that turn about":                 numbered(1, 3, 2, 4),
		"that fall from first to last":    numbered(4, 3, 2, 1),
		"that fall back to the first":     numbered(1, 2, 3, 1, 2),
		"a difference of 1 - 2^31":        numbered(1<<31, 1),
		"a difference of 1 + 2^31":        numbered(1, 1<<31+2),
		"a first one of 0 that leaves 1":  numbered(0, 2),
		"number 0 behind others":          numbered(1, 2, 0),
		"too many, behind which all zero": append(from(1, 8), api.Command{}),
	}
}

func TestRowsThatAreRows(t *testing.T) {
	cases := map[string][]api.Command{
		"one":                    from(1, 1),
		"two":                    from(1, 2),
		"MaxCommands":            from(1, api.MaxCommands),
		"one of 2^31":            from(1<<31, 1),
		"two up to 2^31":         from(1<<31-1, 2),
		"MaxCommands up to 2^31": from(1<<31-7, api.MaxCommands),
		"some that fire": {
			{Number: 5, MX: -127, MY: 3}, {Number: 6, Fire: true, View: 9, Frac: 128}, {Number: 7, MX: 127, MY: -127},
		},
		"views that fall": {
			{Number: 5, Fire: true, View: 1 << 31, Frac: 255}, {Number: 6, Fire: true, View: 9}, {Number: 7, Fire: true},
		},
	}
	for name, l := range cases {
		if !Row(l) {
			t.Errorf("%s is no row", name)
		}
	}
	for _, l := range rows() {
		if !Row(l) {
			t.Errorf("%v is no row", l)
		}
	}
}

func TestRowsThatAreNone(t *testing.T) {
	for name, l := range noRows() {
		if Row(l) {
			t.Errorf("%s is a row", name)
		}
	}
}

func TestRowOfEachLengthAndFirstNumber(t *testing.T) {
	firsts := []int64{0, 1, 2, 3, 100, 1<<31 - 9, 1<<31 - 8, 1<<31 - 7, 1<<31 - 6, 1<<31 - 1, 1 << 31, 1<<31 + 1, greatest - 8, greatest - 1, greatest}
	for _, first := range firsts {
		for n := range 20 {
			want := n >= 1 && n <= 8 && first >= 1 && first+int64(n)-1 <= 1<<31
			if got := Row(from(uint32(first), n)); got != want {
				t.Errorf("%d from %d on: %v", n, first, got)
			}
		}
	}
}

// Each number of a row is brought off its place, near and far.
func TestRowWithANumberOffItsPlace(t *testing.T) {
	for n := 2; n <= api.MaxCommands; n++ {
		for at := range n {
			for _, off := range []uint32{1, 2, 3, 1 << 8, 1 << 16, 1 << 30, 1 << 31, 1<<31 + 1, greatest, greatest - 1} {
				l := from(100, n)
				l[at].Number += off
				if Row(l) {
					t.Errorf("of %d number %d is %d: a row", n, at, l[at].Number)
				}
			}
		}
	}
}

// From one place on all numbers are further, or back, though they rise by 1.
func TestRowThatBreaksAtOnePlace(t *testing.T) {
	for n := 2; n <= api.MaxCommands; n++ {
		for at := 1; at < n; at++ {
			for _, first := range []uint32{1, 2, 99, 99 + uint32(at), 101 + uint32(at), 1000} {
				l := append(from(100, at), from(first, n-at)...)
				if Row(l) {
					t.Errorf("%d from 100 on and %d from %d on: a row", at, n-at, first)
				}
			}
		}
	}
}

func TestRowWithAnUnformedOneAtEachPlace(t *testing.T) {
	for n := 1; n <= api.MaxCommands; n++ {
		for at := range n {
			for _, c := range unformed(api.Command{Number: 5 + uint32(at)}) {
				l := from(5, n)
				l[at] = c
				if Row(l) {
					t.Errorf("of %d with %v at %d: a row", n, c, at)
				}
			}
		}
	}
}

// What lies in a list's spare room isn't part of it, and stays.
func TestRowLeavesItsListAndTheRoomBehind(t *testing.T) {
	all := append(from(1, 4), api.Command{MX: -128}, api.Command{Number: 77})
	held := slices.Clone(all)
	if !Row(all[:4]) {
		t.Error("what lies behind the list spoils it")
	}
	if Row(all) || Row(all[:5]) {
		t.Error("an unformed one is part of a row")
	}
	if !slices.Equal(all, held) {
		t.Errorf("the list is %v now", all)
	}
}
