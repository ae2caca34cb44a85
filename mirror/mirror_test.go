package mirror

import (
	"maps"
	"math"
	"reflect"
	"testing"

	"braidwork/api"
	"braidwork/disk"
)

// Of a bank of begin: places that live, of two disks and of one; places that are lost; places that are out of range.
var (
	here  = api.Place{Disk: 0, At: 3}
	there = api.Place{Disk: 1, At: 6}
	near  = api.Place{Disk: 0, At: 8}
	dead  = api.Place{Disk: 2, At: 3}
	none  = api.Place{Disk: 4, At: 3}
	out   = api.Place{Disk: 3, At: 5}
	below = api.Place{Disk: 1, At: -1}
)

var (
	zeros api.Sector
	fresh = full(0xa5) // what no bank of begin holds
	other = full(0x5a) // likewise
)

// masks are some of each kind.
var masks = []uint64{0, 1, 2, 3, 5, 6, 1 << 63, 0x5555555555555555, math.MaxUint64 - 1, math.MaxUint64}

// full is the sector of which each byte is v.
func full(v byte) api.Sector {
	var s api.Sector
	for i := range s {
		s[i] = v
	}
	return s
}

// stock is what a bank of begin holds at a place: nothing twice, and no zeros.
func stock(p api.Place) api.Sector {
	s := full(byte(40*p.Disk + p.At + 1))
	s[api.Size-1] = 0xff
	return s
}

// begin is a bank of four disks, of which 2 is dead, and 3 is smaller than the others; all that it holds is flushed.
func begin(t *testing.T) *disk.Bank {
	t.Helper()
	b := disk.NewBank()
	for d, n := range []int{9, 9, 9, 5} {
		_, e := b.Add(n)
		is(t, "Add", e, api.OK)
		for at := range n {
			p := api.Place{Disk: d, At: at}
			put(t, b, p, stock(p))
		}
	}
	is(t, "Fail", b.Fail(2), api.OK)
	return b
}

// put makes s what a place holds, durably.
func put(t *testing.T, b *disk.Bank, p api.Place, s api.Sector) {
	t.Helper()
	is(t, "Write", b.Write(p, s), api.OK)
	is(t, "Flush", b.Flush(p.Disk), api.OK)
}

func is(t *testing.T, what string, got, want api.Errno) {
	t.Helper()
	if got != want {
		t.Fatalf("%s: %v, not %v", what, got, want)
	}
}

// contents is what all places hold that may be read, be the bank up or not.
func contents(b *disk.Bank) map[api.Place]api.Sector {
	b = b.Clone()
	b.Start()
	m := map[api.Place]api.Sector{}
	for d := range b.Count() {
		for at := range b.Sectors(d) {
			p := api.Place{Disk: d, At: at}
			if s, e := b.Read(p); e == api.OK {
				m[p] = s
			}
		}
	}
	return m
}

// holds tells that a bank of begin has these contents, and what it had at all other places.
func holds(t *testing.T, what string, b *disk.Bank, now map[api.Place]api.Sector) {
	t.Helper()
	for p, s := range contents(b) {
		want, ok := now[p]
		if !ok {
			want = stock(p)
		}
		if s != want {
			t.Fatalf("%s: %v holds %x, not %x", what, p, s, want)
		}
	}
}

// at is each of these places with s.
func at(s api.Sector, l ...api.Place) map[api.Place]api.Sector {
	m := map[api.Place]api.Sector{}
	for _, p := range l {
		m[p] = s
	}
	return m
}

// look is what is seen of a bank; behind is what it holds behind a crash that keeps nothing, the first loose sector alone, the second one alone, and all.
type look struct {
	up            bool
	writes, loose int
	now           map[api.Place]api.Sector
	behind        []map[api.Place]api.Sector
}

func lookAt(b *disk.Bank) look {
	l := look{up: b.Up(), writes: b.Writes(), loose: b.Loose(), now: contents(b)}
	for _, mask := range []uint64{0, 1, 2, math.MaxUint64} {
		c := b.Clone()
		c.Crash(mask)
		l.behind = append(l.behind, contents(c))
	}
	return l
}

// sameBanks tells that both banks are the same in all that is seen, also behind a crash.
func sameBanks(t *testing.T, what string, got, want *disk.Bank) {
	t.Helper()
	if g, w := lookAt(got), lookAt(want); !reflect.DeepEqual(g, w) {
		t.Fatalf("%s: %v, not %v", what, g, w)
	}
}

// call is a call of which an error, and perhaps a sector or whether it wrote, is the answer.
type call struct {
	name string
	do   func(b *disk.Bank, x, y api.Place) answer
}

type answer struct {
	s     api.Sector
	wrote bool
	e     api.Errno
}

var (
	write = call{"Write", func(b *disk.Bank, x, y api.Place) answer { return answer{e: Write(b, x, y, fresh)} }}
	read  = call{"Read", func(b *disk.Bank, x, y api.Place) answer {
		s, e := Read(b, x, y)
		return answer{s: s, e: e}
	}}
	alike = call{"Alike", func(b *disk.Bank, x, y api.Place) answer {
		ok, e := Alike(b, x, y)
		return answer{wrote: ok, e: e}
	}}
	copied = call{"Copy", func(b *disk.Bank, x, y api.Place) answer { return answer{e: Copy(b, x, y)} }}
)

// row is a call of two places, and what becomes of it: the answer, how many writes counted, and what is written (durably or not).
type row struct {
	x, y   api.Place
	want   answer
	writes int
	now    map[api.Place]api.Sector
}

// does tells that a call on a bank, on which nothing is loose, does what the row says.
func (c call) does(t *testing.T, b *disk.Bank, r row) {
	t.Helper()
	was := b.Writes()
	if got := c.do(b, r.x, r.y); got != r.want {
		t.Fatalf("%s(%v, %v): %v, not %v", c.name, r.x, r.y, got, r.want)
	}
	if n := b.Writes() - was; n != r.writes {
		t.Fatalf("%s(%v, %v): %d writes, not %d", c.name, r.x, r.y, n, r.writes)
	}
	holds(t, c.name, b, r.now)
}

// keeps tells that what a call wrote is loose, all of it: behind a crash nothing is left.
func keeps(t *testing.T, b *disk.Bank, r row) {
	t.Helper()
	if b.Up() && b.Loose() != len(r.now) {
		t.Fatalf("%d are loose, not %v", b.Loose(), r.now)
	}
	c := b.Clone()
	c.Crash(0)
	holds(t, "behind a crash", c, nil)
}

// off is a bank of begin without power.
func off(t *testing.T) *disk.Bank {
	t.Helper()
	b := begin(t)
	b.Crash(0)
	return b
}

func failed(e api.Errno) answer { return answer{e: e} }

func TestHomeOfEachSlot(t *testing.T) {
	for _, e := range []api.Extent{{}, {Disk: 0, At: api.Base}, {Disk: 1, At: 122}, {Disk: 11, At: 4088}, {Disk: 31, At: 5}, {Disk: -1, At: -3}, {Disk: 1 << 32, At: 1 << 40}} {
		for slot := range 8 {
			p, ok := Home(e, slot)
			if want := (api.Place{Disk: e.Disk, At: e.At + slot}); p != want || !ok {
				t.Errorf("Home(%v, %d): %v, %v, not %v", e, slot, p, ok, want)
			}
		}
	}
}

func TestHomeOfNoSlot(t *testing.T) {
	for _, e := range []api.Extent{{}, {Disk: 0, At: api.Base}, {Disk: 11, At: 4088}, {Disk: 5, At: math.MaxInt}, {Disk: 5, At: math.MinInt}} {
		for _, slot := range []int{math.MinInt, -1 << 32, -9, -8, -2, -1, 8, 9, 10, 16, 1 << 32, 1<<32 + 1, math.MaxInt} {
			if p, ok := Home(e, slot); p != (api.Place{}) || ok {
				t.Errorf("Home(%v, %d): %v, %v", e, slot, p, ok)
			}
		}
	}
}

// Each sector of neighbouring extents is the home of one slot, and in order.
func TestHomesAreAllSectorsOfTheExtents(t *testing.T) {
	homes := map[api.Place]int{}
	for n := range 10 {
		last := -1
		for slot := -20; slot < 30; slot++ {
			p, ok := Home(api.Extent{Disk: 3, At: api.Base + n*api.Run}, slot)
			if !ok {
				continue
			}
			if p.At <= last {
				t.Errorf("the slot %d of %d: %v, behind %d", slot, n, p, last)
			}
			last = p.At
			homes[p]++
		}
	}
	want := map[api.Place]int{}
	for i := range 10 * api.Run {
		want[api.Place{Disk: 3, At: api.Base + i}] = 1
	}
	if !maps.Equal(homes, want) {
		t.Error(homes)
	}
}
