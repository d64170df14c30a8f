package world

import (
	"slices"
	"testing"

	"ricochet/api"
	"ricochet/entity"
	"ricochet/tiles"
)

// deed is what is done to a world, and to the ledger that tells of it, which
// answers whether it may be.
type deed struct {
	name string
	do   func(World) (World, api.Errno)
	tell func(*ledger) api.Errno
}

// errno is e where something may not be.
func errno(may bool, e api.Errno) api.Errno {
	if may {
		return 0
	}
	return e
}

func toJoin(id int) deed {
	e := api.ErrState
	if id < 1 || id > 8 {
		e = api.ErrArg
	}
	return deed{"Join", func(w World) (World, api.Errno) { return Join(w, id) }, func(l *ledger) api.Errno { return errno(l.join(id), e) }}
}

func toLeave(id int) deed {
	return deed{"Leave", func(w World) (World, api.Errno) { return Leave(w, id) }, func(l *ledger) api.Errno { return errno(l.leave(id), api.ErrNone) }}
}

func toHit(id, by int) deed {
	return deed{"Hit", func(w World) (World, api.Errno) { return Hit(w, id, by), 0 }, func(l *ledger) api.Errno { l.hit(id, by); return 0 }}
}

func toGo(id int, mx, my int8) deed {
	return deed{"Go", func(w World) (World, api.Errno) { return Go(w, enters(mx, my), id), 0 }, func(l *ledger) api.Errno { l.walk(id, mx, my); return 0 }}
}

func toTick() deed {
	return deed{"Tick", func(w World) (World, api.Errno) { return Tick(w), 0 }, func(l *ledger) api.Errno { l.goOn(); return 0 }}
}

// deeds are so many of all kinds, some of which may not be.
func (r *rule) deeds(n int) []deed {
	var l []deed
	for range n {
		id := r.from(0, 10)
		switch r.below(12) {
		case 0, 1:
			l = append(l, toJoin(id))
		case 2:
			l = append(l, toLeave(id))
		case 3:
			l = append(l, toHit(id, r.from(-1, 60)))
		case 4, 5, 6:
			l = append(l, toGo(id, int8(r.from(-128, 127)), int8(r.from(-128, 127))))
		default:
			l = append(l, toTick())
		}
	}
	return l
}

// checkFormed asks what stays so, whatever is done.
func checkFormed(t *testing.T, w World, m tiles.Map) {
	t.Helper()
	if !entity.List(w.L) {
		t.Fatalf("the entities aren't formed: %v", w.L)
	}
	if !Same(World{Map: w.Map}, World{Map: m}) {
		t.Fatalf("the map %v has become %v", m, w.Map)
	}
}

// Rows of deeds, on many maps: each answers as the second telling has it, and
// entities stay formed.
func TestManyDeeds(t *testing.T) {
	r := rule(5)
	for _, c := range charts() {
		for balls := range 9 {
			m, seed := c.read(t), uint64(r.below(1<<30))
			w, e := New(m, seed, balls)
			checkErrno(t, "New", e, 0)
			l := begin(c.read(t), seed, balls)
			for _, d := range r.deeds(150) {
				w, e = d.do(w)
				checkErrno(t, d.name, e, d.tell(l))
				if !Same(w, l.world()) {
					checkWorld(t, d.name, w, l.world())
				}
				checkFormed(t, w, m)
			}
		}
	}
}

// In a small room of balls the players die again and again.
func TestManyDeaths(t *testing.T) {
	m := chart("o.o/.#./..o/").read(t)
	w, _ := New(m, 3, 8)
	l := begin(m, 3, 8)
	deaths := 0
	for id := 1; id <= 8; id++ {
		w, _ = Join(w, id)
		l.join(id)
	}
	for range 1000 {
		w = Tick(w)
		l.goOn()
		checkWorld(t, "Tick", w, l.world())
		for _, e := range w.L {
			if e.Wait == 19 {
				deaths++
			}
		}
	}
	if deaths < 100 {
		t.Errorf("there were %d deaths, too few to tell", deaths)
	}
}

// Each deed leaves the world as it is that it is done to.
func TestDeedsLeaveWorldsAsTheyAre(t *testing.T) {
	r := rule(6)
	for _, c := range []chart{"oo/", "o.o/.#./..o/"} {
		w, _ := New(c.read(t), 8, 4)
		for _, d := range r.deeds(400) {
			checkApart(t, w, func(w World) World {
				got, _ := d.do(w)
				return got
			})
			w, _ = d.do(w)
		}
	}
}

// The same deeds lead to the same, from the same map and seed, whatever is done to
// other worlds by then.
func TestTheSameDeedsOnceMore(t *testing.T) {
	r := rule(7)
	for _, c := range charts() {
		seed := uint64(r.below(1 << 30))
		deeds, others := r.deeds(200), r.deeds(200)
		first, _ := New(c.read(t), seed, 3)
		for _, d := range deeds {
			first, _ = d.do(first)
		}
		second, _ := New(c.read(t), seed, 3)
		other, _ := New(c.read(t), seed, 3)
		for i, d := range deeds {
			other, _ = others[i].do(other)
			second, _ = d.do(second)
		}
		checkSame(t, first, second, true)
		checkWorld(t, "the same deeds", second, first)
	}
}

// A world can be taken up again where it was, as often as one likes.
func TestFromTheSameWorldOn(t *testing.T) {
	r := rule(9)
	start, _ := New(chart("o.o/.#./..o/").read(t), 12, 4)
	for _, d := range r.deeds(40) {
		start, _ = d.do(start)
	}
	before := tell(start)
	for range 30 {
		deeds := r.deeds(40)
		first, second := start, start
		for _, d := range deeds {
			first, _ = d.do(first)
		}
		for _, d := range deeds {
			second, _ = d.do(second)
		}
		checkSame(t, first, second, true)
		if tell(start) != before {
			t.Fatal("the world that all began with is another one")
		}
	}
}

// Other seeds lead elsewhere.
func TestOtherSeeds(t *testing.T) {
	m := chart("o.o/.#./..o/").read(t)
	first, _ := New(m, 1, 2)
	for seed := uint64(2); seed < 200; seed++ {
		other, _ := New(m, seed, 2)
		checkSame(t, first, other, false)
	}
}

// What players do, and who of them is there, the balls don't notice.
func TestBallsHangOnNobody(t *testing.T) {
	r := rule(10)
	for _, c := range charts() {
		alone, _ := New(c.read(t), 21, 5)
		w := alone
		for _, d := range append(r.deeds(300), toTick()) {
			w, _ = d.do(w)
			for range w.Tick - alone.Tick {
				alone = Tick(alone)
			}
			balls := slices.DeleteFunc(slices.Clone(w.L), func(e api.Entity) bool { return e.Kind != 2 })
			if !slices.Equal(balls, alone.L) {
				t.Fatalf("the balls are %v, alone %v", balls, alone.L)
			}
		}
	}
}

// The state goes on just where somebody comes in.
func TestWhereTheStateGoesOn(t *testing.T) {
	r := rule(11)
	for _, c := range charts() {
		w, _ := New(c.read(t), 33, 6)
		for _, d := range r.deeds(400) {
			next, e := d.do(w)
			want := w.State
			for id := 1; id <= 8 && e == 0; id++ {
				was, is := entity.Find(w.L, id), entity.Find(next.L, id)
				if is >= 0 && (was < 0 || w.L[was].Health == 0 && next.L[is].Health > 0) {
					want += step
				}
			}
			if next.State != want {
				t.Fatalf("behind %s the state is %#x, not %#x", d.name, next.State, want)
			}
			w = next
		}
	}
}
