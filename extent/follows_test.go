package extent

import (
	"math/rand"
	"slices"
	"testing"

	"braidwork/api"
)

// owners are the sectors that taken extents have, of each member, to tell one that two of them would have.
type owners map[api.Place]api.Extent

func (o owners) take(t *testing.T, x api.Extent) {
	t.Helper()
	for at := x.At; at < x.At+api.Run; at++ {
		p := api.Place{Disk: x.Disk, At: at}
		if other, is := o[p]; is {
			t.Fatalf("%v has the sector %v, which %v has", x, p, other)
		}
		o[p] = x
	}
}

func (o owners) free(x api.Extent) {
	for at := x.At; at < x.At+api.Run; at++ {
		delete(o, api.Place{Disk: x.Disk, At: at})
	}
}

// step does one call, chosen by r, to a map and to a plain one.
func step(t *testing.T, m *Map, p plain, o owners, r *rand.Rand) {
	t.Helper()
	x := api.Extent{Disk: r.Intn(7) - 1, At: 114 + 8*(r.Intn(9)-1)}
	if r.Intn(8) == 0 {
		x.At += r.Intn(15) - 7
	}
	switch r.Intn(10) {
	case 0:
		sectors := 90 + r.Intn(100)
		want := api.OK
		if x.Disk < 0 {
			want = api.ErrArg
		} else if p[x.Disk] != nil {
			want = api.ErrState
		}
		if e := m.Add(x.Disk, sectors); e != want {
			t.Fatalf("Add(%d, %d): %v, not %v", x.Disk, sectors, e, want)
		}
		if want == api.OK {
			p.add(x.Disk, sectors)
		}
	case 1, 2, 3:
		if least, e := p.least(x.Disk); e == api.OK {
			o.take(t, least)
		}
		takeOne(t, m, p, x.Disk)
	case 4, 5:
		if p.errorOf(x, true) == api.OK {
			o.take(t, x)
		}
		takeAt(t, m, p, x)
	default:
		if p.errorOf(x, false) == api.OK {
			o.free(x)
		}
		free(t, m, p, x)
	}
}

// A map and a plain one are done the same to, in a row that is the same in each run; a clone goes on in the map's stead now and then, and what it was made of stays.
func TestManyCalls(t *testing.T) {
	for seed := range int64(40) {
		r := rand.New(rand.NewSource(seed))
		m, p, o := New(), plain{}, owners{}
		left, was := m, p
		for i := range 400 {
			step(t, m, p, o, r)
			says(t, m, p)
			if i%60 == 59 {
				says(t, left, was)
				left, was = m, p.clone()
				m = m.Clone()
			}
		}
	}
}

// Whatever is taken, and in whatever order it is given back: what is used and what is free is all there is.
func TestUsedAndFreeAreAllThereIs(t *testing.T) {
	r := rand.New(rand.NewSource(6))
	for _, sectors := range []int{122, 160, 600, 4096} {
		m, p := with(t, map[int]int{2: sectors})
		all := placesOf(sectors)
		for range 4 {
			r.Shuffle(len(all), func(i, j int) { all[i], all[j] = all[j], all[i] })
			for n, at := range all {
				takeAt(t, m, p, api.Extent{Disk: 2, At: at})
				if m.Used(2) != n+1 || m.Used(2)+m.Room(2) != len(all) {
					t.Fatalf("%d taken: Used %d, Room %d", n+1, m.Used(2), m.Room(2))
				}
			}
			takeOne(t, m, p, 2)
			r.Shuffle(len(all), func(i, j int) { all[i], all[j] = all[j], all[i] })
			for n, at := range all {
				free(t, m, p, api.Extent{Disk: 2, At: at})
				if m.Room(2) != n+1 || m.Used(2)+m.Room(2) != len(all) {
					t.Fatalf("%d freed: Used %d, Room %d", n+1, m.Used(2), m.Room(2))
				}
			}
			says(t, m, p)
		}
	}
}

// Takes of all members, one by one, hand out each extent once, and all of them.
func TestNoExtentIsTakenTwice(t *testing.T) {
	m, p := with(t, map[int]int{0: 160, 1: 4096, 2: 113, 3: 300})
	o, taken := owners{}, 0
	for left := []int{0, 1, 2, 3}; len(left) > 0; {
		left = slices.DeleteFunc(left, func(disk int) bool {
			x, e := m.Take(disk)
			if e != api.OK {
				return true
			}
			o.take(t, x)
			taken++
			return false
		})
	}
	if want := len(p[0]) + len(p[1]) + len(p[2]) + len(p[3]); taken != want || len(o) != 8*want {
		t.Errorf("%d taken, %d sectors, of %d extents", taken, len(o), want)
	}
}

// The same calls have the same answers, also where members were added in another order.
func TestTheSameCallsHaveTheSameAnswers(t *testing.T) {
	run := func(order []int) []int {
		m := New()
		for _, disk := range order {
			m.Add(disk, 160)
		}
		var l []int
		for range 3 {
			for _, disk := range m.Disks() {
				x, e := m.Take(disk)
				l = append(l, disk, x.Disk, x.At, int(e))
			}
		}
		return append(l, m.Clone().Disks()...)
	}
	want := run([]int{0, 1, 2, 3, 4, 5, 6, 7})
	for range 20 {
		if got := run([]int{7, 2, 5, 0, 6, 1, 4, 3}); !slices.Equal(got, want) {
			t.Fatalf("%v, not %v", got, want)
		}
	}
}
