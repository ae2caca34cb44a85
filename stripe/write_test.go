package stripe

import (
	"math"
	"slices"
	"testing"

	"braidwork/api"
	"braidwork/disk"
)

// written is a WriteFull of a stripe, how many writes of it count, and what is written (durably or not): the items of its data and at last its parity, by numbers, and where they are.
type written struct {
	ext    []api.Extent
	t      int
	want   api.Errno
	writes int
	now    map[int]api.Place
}

// does tells that WriteFull on a bank does what the row says.
func (r written) does(t *testing.T, b *disk.Bank) {
	t.Helper()
	data := some(len(r.ext) - 1)
	all := append(slices.Clone(data), sum(data...))
	now := map[api.Place]api.Sector{}
	for i, p := range r.now {
		now[p] = all[i]
	}
	was := b.Writes()
	in, ext := lent(data, fresh, other), lent(r.ext, four, near)
	is(t, "WriteFull", WriteFull(b, ext, r.t, in), r.want)
	stayed(t, in, data, fresh, other)
	stayed(t, ext, r.ext, four, near)
	clear(in)
	clear(ext)
	if n := b.Writes() - was; n != r.writes {
		t.Fatalf("WriteFull of %v: %d writes, not %d", r.ext, n, r.writes)
	}
	holds(t, "WriteFull", b, now)
}

// on is these extents' places of a stripe, each an item of its data and parity.
func on(at int, l map[int]api.Extent) map[int]api.Place {
	m := map[int]api.Place{}
	for i, x := range l {
		m[i] = of(x, at)
	}
	return m
}

func TestWriteFull(t *testing.T) {
	type in = map[int]api.Extent
	for _, r := range []written{
		{row3(one, two, three), 0, api.OK, 3, on(0, in{0: one, 1: two, 2: three})},
		{row3(one, two, three), 1, api.OK, 3, on(1, in{0: one, 1: three, 2: two})},
		{row3(one, two, three), 2, api.OK, 3, on(2, in{0: two, 1: three, 2: one})},
		{row3(one, two, three), 7, api.OK, 3, on(7, in{0: one, 1: three, 2: two})},
		{row3(half, one, near), 0, api.OK, 3, on(0, in{0: half, 1: one, 2: near})},
		{row3(one, one, one), 0, api.OK, 3, on(0, in{2: one})},
		{[]api.Extent{one, two}, 0, api.OK, 2, on(0, in{0: one, 1: two})},
		{[]api.Extent{one, two}, 5, api.OK, 2, on(5, in{0: two, 1: one})},
		{row3(dead, two, three), 0, api.OK, 3, on(0, in{1: two, 2: three})},
		{row3(one, none, three), 0, api.OK, 3, on(0, in{0: one, 2: three})},
		{row3(one, two, dead), 0, api.OK, 3, on(0, in{0: one, 1: two})},
		{row3(one, dead, three), 4, api.OK, 3, on(4, in{0: one, 1: three})},
		{[]api.Extent{dead, two}, 0, api.OK, 2, on(0, in{1: two})},
		{[]api.Extent{one, none}, 0, api.OK, 2, on(0, in{0: one})},
		{[]api.Extent{dead, none}, 0, api.ErrFailed, 2, nil},
		{row3(dead, none, three), 0, api.ErrFailed, 3, on(0, in{2: three})},
		{row3(dead, two, dead), 0, api.ErrFailed, 3, on(0, in{1: two})},
		{row3(one, none, none), 0, api.ErrFailed, 3, on(0, in{0: one})},
		{row3(dead, none, dead), 3, api.ErrFailed, 3, nil},
		{row3(out, two, three), 0, api.ErrRange, 1, nil},
		{row3(one, below, three), 0, api.ErrRange, 2, on(0, in{0: one})},
		{row3(one, two, out), 0, api.ErrRange, 3, on(0, in{0: one, 1: two})},
		{row3(out, two, three), 2, api.ErrRange, 3, on(2, in{0: two, 1: three})},
		{row3(one, out, three), 1, api.ErrRange, 3, on(1, in{0: one, 1: three})},
		{row3(half, two, three), 3, api.OK, 3, on(3, in{0: half, 1: two, 2: three})},
		{row3(half, two, three), 4, api.ErrRange, 1, nil},
		{row3(dead, out, three), 0, api.ErrRange, 2, nil},
		{row3(dead, none, out), 0, api.ErrRange, 3, nil},
		{[]api.Extent{one, two, three, four, half, near}, 1, api.OK, 6, on(1, in{0: one, 1: two, 2: three, 3: four, 4: near, 5: half})},
		{[]api.Extent{one, dead, three, none, half, near}, 1, api.ErrFailed, 6, on(1, in{0: one, 2: three, 4: near, 5: half})},
	} {
		b := begin(t)
		r.does(t, b)
		if b.Loose() != len(r.now) {
			t.Fatalf("%d are loose, not %v", b.Loose(), r.now)
		}
		b.Crash(0)
		holds(t, "behind a crash", b, nil)
	}
}

func TestWriteFullWithoutPower(t *testing.T) {
	for _, r := range []written{
		{row3(one, two, three), 0, api.ErrDown, 0, nil},
		{row3(dead, two, three), 0, api.ErrDown, 0, nil},
		{row3(dead, none, three), 0, api.ErrDown, 0, nil},
		{row3(dead, out, dead), 0, api.ErrDown, 0, nil},
		{row3(dead, none, dead), 0, api.ErrFailed, 0, nil},
	} {
		r.does(t, off(t))
	}
}

// What may not be is told ahead of all else, and nothing is written.
func TestWriteFullOfWhatMayNotBe(t *testing.T) {
	for _, b := range []*disk.Bank{begin(t), off(t), disk.NewBank()} {
		was := b.Clone()
		for _, ext := range short() {
			for _, at := range append(beyond(8), 0, 1, 7) {
				for n := range 4 {
					is(t, "WriteFull", WriteFull(b, ext, at, some(n)), api.ErrArg)
				}
			}
		}
		for w := 2; w < 14; w++ {
			ext := slices.Repeat([]api.Extent{one, two, three}, 5)[:w]
			for _, at := range append(beyond(8), 0, 1, 7) {
				for _, n := range []int{0, 1, w - 2, w, w + 1, 2 * w, 8 * w} {
					if n != w-1 {
						is(t, "WriteFull", WriteFull(b, ext, at, some(n)), api.ErrArg)
					}
				}
			}
			for _, at := range beyond(8) {
				is(t, "WriteFull", WriteFull(b, ext, at, some(w-1)), api.ErrRange)
			}
		}
		sameBanks(t, "behind what may not be", b, was)
	}
}

// Data are written in order, and then the parity, be it on the first extent, on one between, or on the last one; none is flushed.
func TestTheOrderOfWrites(t *testing.T) {
	ext := []api.Extent{four, two, one, three}
	data := some(3)
	all := append(slices.Clone(data), sum(data...))
	for at := range 8 {
		l := layoutOf(ext)
		places := append(slices.Clone(l.data[at]), l.parity[at])
		for mask := range uint64(16) {
			b := begin(t)
			is(t, "WriteFull", WriteFull(b, ext, at, data), api.OK)
			b.Crash(mask)
			now := map[api.Place]api.Sector{}
			for i, p := range places {
				if mask>>i&1 == 1 {
					now[p] = all[i]
				}
			}
			holds(t, "behind a crash", b, now)
		}
	}
}

// Power fails at each of a stripe's writes: it ends there, and what was written ahead is kept as the mask says.
func TestPowerFailsInWriteFull(t *testing.T) {
	ext := row3(one, two, three)
	data := some(2)
	all := append(slices.Clone(data), sum(data...))
	places := []api.Place{of(one, 1), of(three, 1), of(two, 1)}
	for n := 1; n <= 4; n++ {
		for _, mask := range masks {
			b := begin(t)
			b.Arm(n, mask)
			want := api.ErrDown
			if n > 3 {
				want = api.OK
			}
			is(t, "WriteFull", WriteFull(b, ext, 1, data), want)
			if b.Writes() != 6*size+min(n, 3) || b.Up() != (n > 3) {
				t.Fatal(n, b.Writes(), b.Up())
			}
			now := map[api.Place]api.Sector{}
			for i := range min(n-1, 3) {
				if n > 3 || mask>>i&1 == 1 {
					now[places[i]] = all[i]
				}
			}
			holds(t, "behind a fall", b, now)
		}
	}
}

// A disk fails at each of a stripe's writes: what was written to it is gone, and all others are written. Only what was not answered OK counts as lost.
func TestADiskFailsInWriteFull(t *testing.T) {
	for _, l := range []struct {
		ext  []api.Extent
		fail [][2]int // disks, and at which write each fails
		want api.Errno
		now  map[int]api.Place
	}{
		{row3(one, two, three), [][2]int{{0, 1}}, api.OK, on(0, map[int]api.Extent{1: two, 2: three})},
		{row3(one, two, three), [][2]int{{0, 2}}, api.OK, on(0, map[int]api.Extent{1: two, 2: three})},
		{row3(one, two, three), [][2]int{{1, 2}}, api.OK, on(0, map[int]api.Extent{0: one, 2: three})},
		{row3(one, two, three), [][2]int{{2, 3}}, api.OK, on(0, map[int]api.Extent{0: one, 1: two})},
		{row3(one, two, three), [][2]int{{0, 1}, {1, 1}}, api.ErrFailed, on(0, map[int]api.Extent{2: three})},
		{row3(one, two, three), [][2]int{{1, 2}, {2, 3}}, api.ErrFailed, on(0, map[int]api.Extent{0: one})},
		{row3(one, two, three), [][2]int{{0, 2}, {1, 3}}, api.OK, on(0, map[int]api.Extent{2: three})}, // both were written
		{row3(one, two, three), [][2]int{{0, 2}, {1, 2}}, api.OK, on(0, map[int]api.Extent{2: three})},
		{row3(dead, two, three), [][2]int{{1, 2}}, api.ErrFailed, on(0, map[int]api.Extent{2: three})},
		{row3(dead, two, three), [][2]int{{1, 3}}, api.OK, on(0, map[int]api.Extent{2: three})},
		{row3(one, near, three), [][2]int{{0, 1}}, api.ErrFailed, on(0, map[int]api.Extent{2: three})},
		{row3(one, near, three), [][2]int{{0, 2}}, api.OK, on(0, map[int]api.Extent{2: three})},
		{row3(one, two, near), [][2]int{{0, 1}}, api.ErrFailed, on(0, map[int]api.Extent{1: two})},
		{row3(out, two, three), [][2]int{{5, 1}}, api.OK, on(0, map[int]api.Extent{1: two, 2: three})},
	} {
		b := begin(t)
		for _, f := range l.fail {
			b.FailAt(f[0], f[1])
		}
		written{l.ext, 0, l.want, 3, l.now}.does(t, b)
	}
}

// A disk fails, and at the same write, or at one behind it, power does: what was lost ahead counts no more.
func TestADiskAndPowerFailInWriteFull(t *testing.T) {
	for _, l := range []struct {
		disk, fails, falls int
		now                map[int]api.Place
	}{
		{0, 1, 1, nil},
		{0, 1, 2, nil},
		{0, 1, 3, on(0, map[int]api.Extent{1: two})},
		{0, 2, 3, on(0, map[int]api.Extent{1: two})},
		{1, 2, 2, on(0, map[int]api.Extent{0: one})},
		{2, 3, 3, on(0, map[int]api.Extent{0: one, 1: two})},
		{1, 3, 3, on(0, map[int]api.Extent{0: one})},
	} {
		b := begin(t)
		b.FailAt(l.disk, l.fails)
		b.Arm(l.falls, math.MaxUint64)
		written{row3(one, two, three), 0, api.ErrDown, l.falls, l.now}.does(t, b)
	}
	b := begin(t)
	b.Arm(3, math.MaxUint64)
	written{row3(dead, none, three), 0, api.ErrDown, 3, nil}.does(t, b)
}

// Any data are written as they are: zeros, too, all alike, and what is there already.
func TestAnyData(t *testing.T) {
	ext := row3(one, two, three)
	for _, data := range [][]api.Sector{{zeros, zeros}, {full(0xff), full(0xff)}, {first(one), first(two)}, {zeros, full(1)}, {{1}, {api.Size - 1: 1}}} {
		b := begin(t)
		is(t, "WriteFull", WriteFull(b, ext, 0, data), api.OK)
		holds(t, "WriteFull", b, map[api.Place]api.Sector{of(one, 0): data[0], of(two, 0): data[1], of(three, 0): sum(data...)})
		if b.Loose() != 3 {
			t.Error(b.Loose(), "are loose")
		}
	}
}

func TestPlug(t *testing.T) {
	b := begin(t)
	row4 := func(x, y, z, p api.Extent) []api.Extent { return []api.Extent{x, y, z, p} }
	direct := read(first(one), first(four), fresh)
	around := read(first(two), first(three), fresh)
	plugging.tells(t, b, []asked{
		{row4(one, two, three, four), direct},
		{row4(one, dead, three, four), direct},
		{row4(one, dead, none, four), direct},
		{row4(one, out, below, four), direct},
		{row4(one, two, three, near), read(first(one), first(near), fresh)},
		{row4(one, two, three, one), read(fresh)},
		{row4(dead, two, three, four), around},
		{row4(none, two, three, four), around},
		{row4(one, two, three, dead), around},
		{row4(one, two, three, none), around},
		{row4(dead, two, three, none), around},
		{row4(none, two, three, none), around},
		{row4(dead, near, one, four), read(first(near), first(one), fresh)},
		{row4(dead, two, two, four), read(fresh)},
		{row4(dead, none, three, four), failed(api.ErrFailed)},
		{row4(dead, two, dead, four), failed(api.ErrFailed)},
		{row4(one, dead, three, dead), failed(api.ErrFailed)},
		{row4(one, two, none, none), failed(api.ErrFailed)},
		{row4(dead, two, none, dead), failed(api.ErrFailed)},
		{row4(dead, dead, dead, dead), failed(api.ErrFailed)},
		{row4(out, two, three, four), failed(api.ErrRange)},
		{row4(below, two, three, dead), failed(api.ErrRange)},
		{row4(out, dead, three, dead), failed(api.ErrRange)},
		{row4(one, two, three, out), failed(api.ErrRange)},
		{row4(dead, two, three, out), failed(api.ErrRange)},
		{row4(none, dead, three, below), failed(api.ErrRange)},
		{row4(dead, out, three, four), failed(api.ErrRange)},
		{row4(one, two, out, dead), failed(api.ErrRange)},
		{row4(dead, none, out, four), failed(api.ErrRange)},
		{row4(one, out, dead, none), failed(api.ErrRange)},
		{[]api.Extent{one, two}, read(first(one), first(two), fresh)},
		{[]api.Extent{dead, two}, read(fresh)},
		{[]api.Extent{one, none}, read(fresh)},
		{[]api.Extent{none, dead}, read(fresh)},
		{[]api.Extent{dead, out}, failed(api.ErrRange)},
		{[]api.Extent{out, dead}, failed(api.ErrRange)},
	})
}

func TestPlugWithoutPower(t *testing.T) {
	b := off(t)
	plugging.tells(t, b, []asked{
		{row3(one, two, three), failed(api.ErrDown)},
		{row3(dead, two, three), failed(api.ErrDown)},
		{row3(one, two, none), failed(api.ErrDown)},
		{row3(dead, two, none), failed(api.ErrDown)},
		{row3(out, dead, none), failed(api.ErrDown)},
		{row3(dead, none, dead), failed(api.ErrFailed)},
		{[]api.Extent{dead, none}, read(fresh)}, // no place is asked that is not lost
	})
}

// What is in the slot already, zeros, and anything else.
func TestPlugOfAnySector(t *testing.T) {
	b := begin(t)
	ext := row3(one, two, three)
	for _, s := range []api.Sector{zeros, fresh, first(one), first(three), full(0xff)} {
		p, e := Plug(b, ext, 0, s)
		tells(t, "Plug", p, e, read(first(one), first(three), s))
	}
}
