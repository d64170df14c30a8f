package entity

import (
	"slices"
	"testing"

	"ricochet/api"
)

// withID is a formed one, of the kind that has this ID.
func withID(id int) api.Entity {
	if id > 8 {
		return api.Entity{ID: id, Kind: 2, Health: 100}
	}
	return api.Entity{ID: id, Kind: 1, Health: 100}
}

func withIDs(ids ...int) []api.Entity {
	var l []api.Entity
	for _, id := range ids {
		l = append(l, withID(id))
	}
	return l
}

func TestListOfNone(t *testing.T) {
	if !List(nil) || !List([]api.Entity{}) {
		t.Error("none aren't formed")
	}
}

func TestListByIDs(t *testing.T) {
	rising := [][]int{{1}, {8}, {9}, {16}, {1, 2}, {1, 16}, {8, 9}, {3, 5, 9}, {9, 10, 16}, {2, 9, 11, 15}, {1, 2, 3, 4, 5, 6, 7, 8, 9, 10, 11, 12, 13, 14, 15, 16}}
	for _, ids := range rising {
		if !List(withIDs(ids...)) {
			t.Errorf("%v isn't formed", ids)
		}
	}
	others := [][]int{{0}, {17}, {-1}, {1, 1}, {16, 16}, {2, 1}, {9, 8}, {1, 2, 2}, {1, 1, 2}, {1, 3, 2}, {2, 1, 3}, {2, 3, 1}, {1, 9, 9, 10}, {0, 1}, {1, 0}, {16, 17}, {-1, 1}, {1, 2, 3, 4, 3}}
	for _, ids := range others {
		if List(withIDs(ids...)) {
			t.Errorf("%v is formed", ids)
		}
	}
}

// All lists of up to four IDs of a few.
func TestListOfAllOrders(t *testing.T) {
	some := []int{0, 1, 2, 8, 9, 16, 17}
	for n := range len(some) * len(some) * len(some) * len(some) {
		var ids []int
		for range 4 {
			ids = append(ids, some[n%len(some)])
			n /= len(some)
		}
		for count := range 5 {
			want := true
			for i, id := range ids[:count] {
				want = want && 1 <= id && id <= 16 && (i == 0 || id > ids[i-1])
			}
			if got := List(withIDs(ids[:count]...)); got != want {
				t.Fatalf("%v: %v", ids[:count], got)
			}
		}
	}
}

// One at each place that isn't formed, though its ID rises.
func TestListWithOneUnformed(t *testing.T) {
	spoil := []func(*api.Entity){
		func(e *api.Entity) { e.Kind = 3 - e.Kind },
		func(e *api.Entity) { e.At.X = limit + 1 },
		func(e *api.Entity) { e.Vel.Y = -65537 },
		func(e *api.Entity) { e.Health = 101 },
		func(e *api.Entity) { e.Wait = 1 },
	}
	for n := 1; n <= 16; n++ {
		for at := range n {
			for i, f := range spoil {
				l := withIDs(1, 2, 3, 4, 5, 6, 7, 8, 9, 10, 11, 12, 13, 14, 15, 16)[:n]
				f(&l[at])
				if List(l) {
					t.Errorf("%d with number %d spoiled in way %d are formed", n, at, i)
				}
			}
		}
	}
}

func TestFind(t *testing.T) {
	l := withIDs(2, 3, 7, 9, 16)
	for want, id := range []int{2, 3, 7, 9, 16} {
		if got := Find(l, id); got != want {
			t.Errorf("ID %d is at %d, not %d", id, got, want)
		}
	}
	for _, id := range []int{least, -2, -1, 0, 1, 4, 8, 10, 15, 17, 1<<32 + 2, greatest} {
		if got := Find(l, id); got != api.None {
			t.Errorf("ID %d, which isn't there, is at %d", id, got)
		}
	}
}

func TestFindInNone(t *testing.T) {
	for _, l := range [][]api.Entity{nil, {}, withIDs(1, 2)[:0]} {
		for _, id := range []int{-1, 0, 1, 2} {
			if got := Find(l, id); got != -1 {
				t.Errorf("ID %d is at %d of none", id, got)
			}
		}
	}
}

// Lists that aren't formed are asked too: the first of two counts.
func TestFindOfTwo(t *testing.T) {
	cases := []struct {
		ids      []int
		id, want int
	}{
		{[]int{5, 5}, 5, 0},
		{[]int{1, 5, 5}, 5, 1},
		{[]int{5, 1, 5}, 5, 0},
		{[]int{9, 5, 1, 5}, 5, 1},
		{[]int{9, 5, 1, 5}, 1, 2},
		{[]int{9, 5, 1}, 9, 0},
		{[]int{0, 1}, 0, 0},
		{[]int{4, -1, 0}, -1, 1},
		{[]int{4, -1, 0}, 0, 2},
		{[]int{greatest, least}, least, 1},
	}
	for _, c := range cases {
		if got := Find(withIDs(c.ids...), c.id); got != c.want {
			t.Errorf("ID %d of %v is at %d, not %d", c.id, c.ids, got, c.want)
		}
	}
	// The kind, and all else, doesn't matter.
	if got := Find([]api.Entity{{ID: 3}, {ID: 3, Kind: 1, Health: 1}}, 3); got != 0 {
		t.Errorf("ID 3 is at %d", got)
	}
}

func TestListsAreLeftAsTheyAre(t *testing.T) {
	whole := withIDs(3, 1, 2, 2, 9)
	kept := slices.Clone(whole)
	List(whole[:2])
	List(whole[2:3])
	Find(whole[:3], 2)
	if !slices.Equal(whole, kept) {
		t.Errorf("%v is now %v", kept, whole)
	}
}
