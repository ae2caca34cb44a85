package stripe

import (
	"math"
	"testing"

	"braidwork/api"
	"braidwork/disk"
)

// asked is extents of which the slot 0, or what the first one has of stripe 0, is asked, and what is told.
type asked struct {
	ext  []api.Extent
	want answer
}

// ask is a call that is asked of extents, and of a slot of them, or of a stripe of the first one.
type ask struct {
	name string
	of   func(b *disk.Bank, ext []api.Extent, n int) (api.Sector, api.Errno)
}

var (
	reading = ask{"Read", Read}
	making  = ask{"Rebuilt", func(b *disk.Bank, ext []api.Extent, n int) (api.Sector, api.Errno) {
		return Rebuilt(b, ext, 0, n)
	}}
	plugging = ask{"Plug", func(b *disk.Bank, ext []api.Extent, n int) (api.Sector, api.Errno) {
		return Plug(b, ext, n, fresh)
	}}
)

func (a ask) tells(t *testing.T, b *disk.Bank, rows []asked) {
	t.Helper()
	for _, r := range rows {
		s, e := a.of(b, r.ext, 0)
		tells(t, a.name, s, e, r.want)
	}
}

func row3(x, y, z api.Extent) []api.Extent { return []api.Extent{x, y, z} }

func TestRead(t *testing.T) {
	b := begin(t)
	reading.tells(t, b, []asked{
		{row3(one, two, three), read(first(one))},
		{row3(near, two, three), read(first(near))},
		{row3(half, two, three), read(first(half))},
		{row3(one, one, one), read(first(one))},
		{row3(one, dead, none), read(first(one))},
		{row3(one, out, below), read(first(one))},
		{row3(dead, two, three), read(first(two), first(three))},
		{row3(none, two, three), read(first(two), first(three))},
		{row3(dead, one, near), read(first(one), first(near))},
		{row3(dead, one, one), read()},
		{row3(dead, dead, three), failed(api.ErrFailed)},
		{row3(dead, two, dead), failed(api.ErrFailed)},
		{row3(none, none, three), failed(api.ErrFailed)},
		{row3(none, two, dead), failed(api.ErrFailed)},
		{row3(dead, none, dead), failed(api.ErrFailed)},
		{row3(dead, out, three), failed(api.ErrRange)},
		{row3(dead, two, below), failed(api.ErrRange)},
		{row3(none, dead, out), failed(api.ErrRange)},
		{row3(none, out, dead), failed(api.ErrRange)},
		{row3(out, two, three), failed(api.ErrRange)},
		{row3(below, two, three), failed(api.ErrRange)},
		{row3(out, dead, three), failed(api.ErrRange)},
		{[]api.Extent{one, two}, read(first(one))},
		{[]api.Extent{dead, two}, read(first(two))},
		{[]api.Extent{dead, none}, failed(api.ErrFailed)},
		{[]api.Extent{dead, two, three, four, half, near}, read(first(two), first(three), first(four), first(half), first(near))},
		{[]api.Extent{dead, two, three, four, half, none}, failed(api.ErrFailed)},
	})
}

// A place of a live disk is not lost where the power is off; a lost one is all the same.
func TestReadWithoutPower(t *testing.T) {
	b := off(t)
	reading.tells(t, b, []asked{
		{row3(one, two, three), failed(api.ErrDown)},
		{row3(out, two, three), failed(api.ErrDown)},
		{row3(dead, two, three), failed(api.ErrDown)},
		{row3(none, two, dead), failed(api.ErrDown)},
		{row3(dead, none, out), failed(api.ErrDown)},
		{row3(dead, none, dead), failed(api.ErrFailed)},
	})
}

// Too few extents stand ahead of no such slot, and both ahead of what the bank answers.
func TestOfNoSlot(t *testing.T) {
	for _, a := range []ask{reading, plugging} {
		for _, b := range []*disk.Bank{begin(t), off(t), disk.NewBank()} {
			for _, ext := range short() {
				for _, slot := range append(beyond(8), 0, 1, 7) {
					s, e := a.of(b, ext, slot)
					tells(t, a.name, s, e, failed(api.ErrArg))
				}
			}
			for _, ext := range [][]api.Extent{row3(one, two, three), row3(dead, none, out)} {
				for _, slot := range beyond(16) {
					s, e := a.of(b, ext, slot)
					tells(t, a.name, s, e, failed(api.ErrRange))
				}
			}
		}
	}
}

// What is rebuilt is not read itself, whatever it is.
func TestRebuilt(t *testing.T) {
	b := begin(t)
	for _, self := range []api.Extent{one, two, four, half, dead, none, out, below} {
		for _, r := range []asked{
			{row3(self, two, three), read(first(two), first(three))},
			{row3(self, near, one), read(first(near), first(one))},
			{row3(self, dead, three), failed(api.ErrFailed)},
			{row3(self, two, dead), failed(api.ErrFailed)},
			{row3(self, none, three), failed(api.ErrFailed)},
			{row3(self, dead, none), failed(api.ErrFailed)},
			{row3(self, out, three), failed(api.ErrRange)},
			{row3(self, two, below), failed(api.ErrRange)},
			{row3(self, dead, out), failed(api.ErrRange)},
			{row3(self, out, none), failed(api.ErrRange)},
			{[]api.Extent{self, two}, read(first(two))},
			{[]api.Extent{self, dead}, failed(api.ErrFailed)},
			{[]api.Extent{self, out}, failed(api.ErrRange)},
			{[]api.Extent{self, two, three, four, half, near}, read(first(two), first(three), first(four), first(half), first(near))},
		} {
			for k := range r.ext {
				ext := append(append([]api.Extent{}, r.ext[1:k+1]...), self)
				ext = append(ext, r.ext[k+1:]...)
				s, e := Rebuilt(b, ext, k, 0)
				tells(t, "Rebuilt", s, e, r.want)
			}
		}
	}
}

func TestRebuiltWithoutPower(t *testing.T) {
	b := off(t)
	making.tells(t, b, []asked{
		{row3(one, two, three), failed(api.ErrDown)},
		{row3(dead, two, three), failed(api.ErrDown)},
		{row3(one, out, three), failed(api.ErrDown)},
		{row3(one, dead, three), failed(api.ErrDown)},
		{row3(one, two, none), failed(api.ErrDown)},
		{row3(one, dead, none), failed(api.ErrFailed)},
	})
}

// No such extent stands ahead of no such stripe.
func TestRebuiltOfNone(t *testing.T) {
	for _, b := range []*disk.Bank{begin(t), off(t), disk.NewBank()} {
		for _, ext := range append(short(), row3(one, two, three), row3(dead, none, out)) {
			for _, at := range append(beyond(8), 0, 3, 7) {
				for _, k := range beyond(len(ext)) {
					s, e := Rebuilt(b, ext, k, at)
					tells(t, "Rebuilt", s, e, failed(api.ErrArg))
				}
				for k := range ext {
					s, e := Rebuilt(b, ext, k, at)
					if len(ext) < 2 {
						tells(t, "Rebuilt", s, e, failed(api.ErrArg))
					} else if at < 0 || at > 7 {
						tells(t, "Rebuilt", s, e, failed(api.ErrRange))
					}
				}
			}
		}
	}
}

// Each stripe is its own: of an extent that ends within its disk's sectors no more than half the first stripes are there, and the others out of range.
func TestEachStripeIsReadByItself(t *testing.T) {
	b := begin(t)
	ext := []api.Extent{one, half, dead}
	for at := range 8 {
		want := read(stock(of(one, at)), stock(of(half, at)))
		if at >= 4 {
			want = failed(api.ErrRange)
		}
		s, e := Rebuilt(b, ext, 2, at)
		tells(t, "Rebuilt", s, e, want)
		for slot := 2 * at; slot < 2*at+2; slot++ {
			p := layoutOf(ext).home(slot)
			w := want
			if p.Disk == one.Disk || p.Disk == half.Disk && at < 4 {
				w = read(stock(p))
			}
			s, e := Read(b, ext, slot)
			tells(t, "Read", s, e, w)
		}
	}
}

// What is newest is read, be it flushed or not; behind a crash it is what was flushed.
func TestReadIsTheNewest(t *testing.T) {
	b := begin(t)
	ext, lost := row3(one, two, three), row3(none, two, three)
	is(t, "Write", b.Write(of(one, 0), fresh), api.OK)
	is(t, "Write", b.Write(of(two, 0), other), api.OK)
	reading.tells(t, b, []asked{{ext, read(fresh)}, {lost, read(other, first(three))}})
	s, e := Rebuilt(b, ext, 2, 0)
	tells(t, "Rebuilt", s, e, read(fresh, other))
	s, e = Plug(b, ext, 0, fresh)
	tells(t, "Plug", s, e, read(fresh, first(three), fresh))
	is(t, "Flush", b.Flush(1), api.OK)
	b.Crash(0)
	b.Start()
	reading.tells(t, b, []asked{{ext, read(first(one))}, {lost, read(other, first(three))}})
	s, e = Rebuilt(b, ext, 2, 0)
	tells(t, "Rebuilt", s, e, read(first(one), other))
}

// Reading makes no write, and no flush: nothing that waits for one happens, and what is loose stays so; nor is a row that was handed in changed.
func TestReadingChangesNothing(t *testing.T) {
	b := begin(t)
	is(t, "Write", b.Write(of(one, 7), fresh), api.OK)
	is(t, "Write", b.Write(of(two, 7), fresh), api.OK)
	b.Arm(1, math.MaxUint64)
	b.FailAt(0, 1)
	was := b.Clone()
	for _, ext := range [][]api.Extent{row3(one, two, three), row3(dead, two, three), row3(one, dead, none), row3(out, two, dead), {two, near}, {one}} {
		in := lent(ext, four, near)
		for n := range 16 {
			Read(b, in, n)
			Rebuilt(b, in, n%4, n/2)
			Plug(b, in, n, other)
		}
		stayed(t, in, ext, four, near)
	}
	unread(t, "behind reading", b, was)
	sameBanks(t, "behind reading", b, was)
	is(t, "the next write", b.Write(of(two, 0), other), api.ErrDown)
	if !b.Dead(0) {
		t.Error("0 is to fail at the next write")
	}
}
