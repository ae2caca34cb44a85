package mirror

import (
	"math"
	"testing"

	"braidwork/api"
	"braidwork/disk"
)

func TestTheChaptersExample(t *testing.T) {
	b := begin(t)
	is(t, "Write", Write(b, here, there, fresh), api.OK)
	b.Fail(here.Disk)
	read.does(t, b, row{here, there, answer{s: fresh}, 0, at(fresh, there)})
	is(t, "Write", Write(b, here, there, other), api.OK)
	read.does(t, b, row{here, there, answer{s: other}, 0, at(other, there)})
	b.Fail(there.Disk)
	read.does(t, b, row{here, there, failed(api.ErrFailed), 0, nil})
	is(t, "Write", Write(b, here, there, fresh), api.ErrFailed)
}

func TestWrite(t *testing.T) {
	for _, r := range []row{
		{here, there, answer{}, 2, at(fresh, here, there)},
		{there, here, answer{}, 2, at(fresh, here, there)},
		{here, near, answer{}, 2, at(fresh, here, near)},
		{here, here, answer{}, 2, at(fresh, here)},
		{here, dead, answer{}, 2, at(fresh, here)},
		{here, none, answer{}, 2, at(fresh, here)},
		{dead, there, answer{}, 2, at(fresh, there)},
		{none, there, answer{}, 2, at(fresh, there)},
		{dead, dead, failed(api.ErrFailed), 2, nil},
		{none, none, failed(api.ErrFailed), 2, nil},
		{dead, none, failed(api.ErrFailed), 2, nil},
		{none, dead, failed(api.ErrFailed), 2, nil},
		{out, there, failed(api.ErrRange), 1, nil},
		{below, there, failed(api.ErrRange), 1, nil},
		{out, dead, failed(api.ErrRange), 1, nil},
		{below, none, failed(api.ErrRange), 1, nil},
		{out, out, failed(api.ErrRange), 1, nil},
		{here, out, failed(api.ErrRange), 2, at(fresh, here)},
		{here, below, failed(api.ErrRange), 2, at(fresh, here)},
		{dead, out, failed(api.ErrRange), 2, nil},
		{none, below, failed(api.ErrRange), 2, nil},
	} {
		b := begin(t)
		write.does(t, b, r)
		keeps(t, b, r)
	}
}

// Where the power is off, a copy of a live disk is not lost, but answers that; a lost one is lost all the same.
func TestWriteWithoutPower(t *testing.T) {
	for _, r := range []row{
		{here, there, failed(api.ErrDown), 0, nil},
		{here, dead, failed(api.ErrDown), 0, nil},
		{here, out, failed(api.ErrDown), 0, nil},
		{out, dead, failed(api.ErrDown), 0, nil},
		{dead, there, failed(api.ErrDown), 0, nil},
		{none, there, failed(api.ErrDown), 0, nil},
		{dead, out, failed(api.ErrDown), 0, nil},
		{dead, none, failed(api.ErrFailed), 0, nil},
		{none, dead, failed(api.ErrFailed), 0, nil},
	} {
		write.does(t, off(t), r)
	}
}

// The first one is written ahead of the second one, and neither is flushed.
func TestWriteWritesTheFirstOneFirst(t *testing.T) {
	for _, l := range [][2]api.Place{{here, there}, {there, here}, {near, here}} {
		for mask, want := range []map[api.Place]api.Sector{nil, at(fresh, l[0]), at(fresh, l[1]), at(fresh, l[0], l[1])} {
			b := begin(t)
			is(t, "Write", Write(b, l[0], l[1], fresh), api.OK)
			b.Crash(uint64(mask))
			holds(t, "behind a crash", b, want)
		}
	}
}

// Power fails at the first of two writes, and at the second.
func TestPowerFailsInWrite(t *testing.T) {
	first, second := at(fresh, here), at(fresh, there)
	for _, l := range []struct {
		n    int
		mask uint64
		row
	}{
		{1, math.MaxUint64, row{here, there, failed(api.ErrDown), 1, nil}},
		{2, 0, row{here, there, failed(api.ErrDown), 2, nil}},
		{2, 2, row{here, there, failed(api.ErrDown), 2, nil}},
		{2, 1, row{here, there, failed(api.ErrDown), 2, first}},
		{2, math.MaxUint64, row{there, here, failed(api.ErrDown), 2, second}},
		{3, 0, row{here, there, answer{}, 2, at(fresh, here, there)}},
		{1, math.MaxUint64, row{here, dead, failed(api.ErrDown), 1, nil}},
		{2, 1, row{here, dead, failed(api.ErrDown), 2, first}},
		{1, 1, row{none, there, failed(api.ErrDown), 1, nil}},
		{2, 1, row{none, there, failed(api.ErrDown), 2, nil}},
		{2, 1, row{dead, none, failed(api.ErrDown), 2, nil}},
		{1, 1, row{out, there, failed(api.ErrDown), 1, nil}},
		{2, 1, row{out, there, failed(api.ErrRange), 1, nil}},
	} {
		b := begin(t)
		b.Arm(l.n, l.mask)
		write.does(t, b, l.row)
	}
}

// A disk fails at the first of two writes, and at the second: what was written to it is gone, and the other one is there.
func TestADiskFailsInWrite(t *testing.T) {
	for _, l := range []struct {
		disk, n int
		row
	}{
		{0, 1, row{here, there, answer{}, 2, at(fresh, there)}},
		{0, 2, row{here, there, answer{}, 2, at(fresh, there)}},
		{1, 1, row{here, there, answer{}, 2, at(fresh, here)}},
		{1, 2, row{here, there, answer{}, 2, at(fresh, here)}},
		{0, 3, row{here, there, answer{}, 2, at(fresh, here, there)}},
		{0, 1, row{here, dead, failed(api.ErrFailed), 2, nil}},
		{0, 1, row{none, here, failed(api.ErrFailed), 2, nil}},
		{0, 2, row{none, here, failed(api.ErrFailed), 2, nil}},
		{0, 1, row{here, near, failed(api.ErrFailed), 2, nil}},
		{0, 1, row{here, here, failed(api.ErrFailed), 2, nil}},
		{0, 2, row{here, here, answer{}, 2, nil}}, // the first write was answered OK
		{0, 1, row{here, out, failed(api.ErrRange), 2, nil}},
		{3, 1, row{out, there, answer{}, 2, at(fresh, there)}},
	} {
		b := begin(t)
		b.FailAt(l.disk, l.n)
		write.does(t, b, l.row)
	}
}

// A disk fails, and at the same write, or at the other one, power does.
func TestADiskAndPowerFailInWrite(t *testing.T) {
	for _, l := range []struct {
		disk, fails, falls int
		now                map[api.Place]api.Sector
	}{
		{0, 1, 1, nil},
		{0, 1, 2, nil},
		{0, 2, 2, nil},
		{1, 1, 1, nil},
		{1, 1, 2, at(fresh, here)},
		{1, 2, 2, at(fresh, here)},
	} {
		b := begin(t)
		b.FailAt(l.disk, l.fails)
		b.Arm(l.falls, math.MaxUint64)
		write.does(t, b, row{here, there, failed(api.ErrDown), l.falls, l.now})
		b.Start()
		if b.Dead(l.disk) != (l.fails <= l.falls) {
			t.Fatal(l.disk, "is dead:", b.Dead(l.disk))
		}
	}
}

// Any sector is written as it is: zeros, too, and what is there already.
func TestWriteOfAnySector(t *testing.T) {
	for _, s := range []api.Sector{zeros, full(0xff), stock(here), stock(there), {1}, {api.Size - 1: 1}} {
		b := begin(t)
		is(t, "Write", Write(b, here, there, s), api.OK)
		holds(t, "Write", b, at(s, here, there))
		if b.Loose() != 2 {
			t.Error(b.Loose(), "are loose")
		}
		read.does(t, b, row{here, there, answer{s: s}, 0, at(s, here, there)})
	}
}

// Whatever no disk is called, and no place is: all of these are told alike.
func TestPlacesThatThereAreNot(t *testing.T) {
	for _, d := range []int{math.MinInt, -1 << 32, -1, 4, 5, 31, 32, 1 << 32, math.MaxInt} {
		for _, sector := range []int{math.MinInt, -1, 0, 3, 9, math.MaxInt} {
			no := api.Place{Disk: d, At: sector}
			write.does(t, begin(t), row{no, there, answer{}, 2, at(fresh, there)})
			write.does(t, begin(t), row{here, no, answer{}, 2, at(fresh, here)})
			write.does(t, begin(t), row{no, no, failed(api.ErrFailed), 2, nil})
			read.does(t, begin(t), row{no, there, answer{s: stock(there)}, 0, nil})
			read.does(t, begin(t), row{no, dead, failed(api.ErrFailed), 0, nil})
		}
	}
	for _, sector := range []int{math.MinInt, -1 << 32, -1, 9, 10, 4096, 1 << 32, math.MaxInt} {
		no := api.Place{Disk: 0, At: sector}
		write.does(t, begin(t), row{no, there, failed(api.ErrRange), 1, nil})
		write.does(t, begin(t), row{there, no, failed(api.ErrRange), 2, at(fresh, there)})
		read.does(t, begin(t), row{no, there, failed(api.ErrRange), 0, nil})
	}
	empty := disk.NewBank()
	is(t, "Write", Write(empty, here, there, fresh), api.ErrFailed)
	if s, e := Read(empty, here, there); s != zeros || e != api.ErrFailed {
		t.Error(s, e)
	}
}

func TestRead(t *testing.T) {
	for _, r := range []row{
		{here, there, answer{s: stock(here)}, 0, nil},
		{there, here, answer{s: stock(there)}, 0, nil},
		{here, near, answer{s: stock(here)}, 0, nil},
		{here, here, answer{s: stock(here)}, 0, nil},
		{here, dead, answer{s: stock(here)}, 0, nil},
		{here, none, answer{s: stock(here)}, 0, nil},
		{here, out, answer{s: stock(here)}, 0, nil},
		{dead, there, answer{s: stock(there)}, 0, nil},
		{none, there, answer{s: stock(there)}, 0, nil},
		{dead, dead, failed(api.ErrFailed), 0, nil},
		{none, none, failed(api.ErrFailed), 0, nil},
		{dead, none, failed(api.ErrFailed), 0, nil},
		{none, dead, failed(api.ErrFailed), 0, nil},
		{out, there, failed(api.ErrRange), 0, nil},
		{below, dead, failed(api.ErrRange), 0, nil},
		{out, out, failed(api.ErrRange), 0, nil},
		{dead, out, failed(api.ErrRange), 0, nil},
		{none, below, failed(api.ErrRange), 0, nil},
	} {
		read.does(t, begin(t), r)
	}
}

func TestReadWithoutPower(t *testing.T) {
	for _, r := range []row{
		{here, there, failed(api.ErrDown), 0, nil},
		{here, dead, failed(api.ErrDown), 0, nil},
		{out, there, failed(api.ErrDown), 0, nil},
		{dead, there, failed(api.ErrDown), 0, nil},
		{none, there, failed(api.ErrDown), 0, nil},
		{dead, out, failed(api.ErrDown), 0, nil},
		{dead, none, failed(api.ErrFailed), 0, nil},
		{none, dead, failed(api.ErrFailed), 0, nil},
	} {
		read.does(t, off(t), r)
	}
}

// What is newest is read, be it flushed or not; the second one is not asked, as long as the first one lives.
func TestReadIsTheNewest(t *testing.T) {
	b := begin(t)
	is(t, "Write", b.Write(here, fresh), api.OK)
	is(t, "Write", b.Write(there, other), api.OK)
	now := map[api.Place]api.Sector{here: fresh, there: other}
	read.does(t, b, row{here, there, answer{s: fresh}, 0, now})
	read.does(t, b, row{there, here, answer{s: other}, 0, now})
	b.Fail(here.Disk)
	read.does(t, b, row{here, there, answer{s: other}, 0, now})
	b.Crash(0)
	b.Start()
	read.does(t, b, row{here, there, answer{s: stock(there)}, 0, nil})
}

// No reading makes a write: nothing that waits for one happens, and nothing is changed.
func TestReadChangesNothing(t *testing.T) {
	for _, l := range [][2]api.Place{{here, there}, {here, here}, {dead, there}, {none, dead}, {out, here}, {none, below}} {
		b := begin(t)
		is(t, "Write", b.Write(near, fresh), api.OK)
		b.Arm(1, 0)
		b.FailAt(0, 1)
		was := b.Clone()
		for range 3 {
			Read(b, l[0], l[1])
		}
		sameBanks(t, "behind Read", b, was)
		is(t, "the next write", b.Write(there, fresh), api.ErrDown)
		if !b.Dead(0) {
			t.Error("0 is to fail at the next write")
		}
	}
}
