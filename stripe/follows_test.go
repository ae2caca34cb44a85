package stripe

import (
	"slices"
	"testing"

	"braidwork/api"
	"braidwork/disk"
)

// raid is a bank of w disks with one extent each, and what each stripe of these was last written with.
type raid struct {
	b    *disk.Bank
	ext  []api.Extent
	data [8][]api.Sector
}

// raidOf is one of which all stripes were written whole, and flushed.
func raidOf(t *testing.T, w int) *raid {
	t.Helper()
	r := &raid{b: disk.NewBank()}
	for d := range w {
		_, e := r.b.Add(16 + d)
		is(t, "Add", e, api.OK)
		r.ext = append(r.ext, api.Extent{Disk: (d*5 + 1) % w, At: d % 9})
		if w%5 == 0 {
			r.ext[d].Disk = d
		}
	}
	for at := range 8 {
		is(t, "WriteFull", r.write(at, 1000*at), api.OK)
	}
	r.flush()
	return r
}

// write writes a stripe whole with data of its own.
func (r *raid) write(at, n int) api.Errno {
	r.data[at] = nil
	for i := range len(r.ext) - 1 {
		r.data[at] = append(r.data[at], mixed(n+i))
	}
	return WriteFull(r.b, r.ext, at, r.data[at])
}

func (r *raid) flush() {
	for d := range r.b.Count() {
		r.b.Flush(d)
	}
}

// slot is what was written to a slot.
func (r *raid) slot(slot int) api.Sector {
	n := len(r.ext) - 1
	return r.data[slot/n][slot%n]
}

// stripe is what each extent has of a stripe.
func (r *raid) stripe(at int) []api.Sector {
	k := len(r.ext) - 1 - at%len(r.ext)
	return slices.Insert(slices.Clone(r.data[at]), k, sum(r.data[at]...))
}

// without is r on a bank of its own, of which these disks are lost.
func (r *raid) without(lost ...int) *raid {
	c := *r
	c.b = r.b.Clone()
	for _, d := range lost {
		c.b.Fail(d)
	}
	return &c
}

// reads tells that each slot but those of the stripe but is read as it was written, and that what each extent has is Rebuilt of the others, if none of these is lost.
func (r *raid) reads(t *testing.T, what string, but int) {
	t.Helper()
	for slot := range Slots(len(r.ext)) {
		if slot/(len(r.ext)-1) == but {
			continue
		}
		s, e := Read(r.b, r.ext, slot)
		tells(t, what, s, e, read(r.slot(slot)))
	}
	for at := range 8 {
		if at == but {
			continue
		}
		for k, had := range r.stripe(at) {
			if r.alive(k) {
				s, e := Rebuilt(r.b, r.ext, k, at)
				tells(t, what, s, e, read(had))
			}
		}
	}
}

// alive tells whether all extents but the k-th live.
func (r *raid) alive(k int) bool {
	for i, x := range r.ext {
		if i != k && r.b.Dead(x.Disk) {
			return false
		}
	}
	return true
}

// What was written whole is read, whichever one of the disks is lost, and what that had is Rebuilt.
func TestWhatWasWrittenWhole(t *testing.T) {
	for w := 2; w <= 13; w++ {
		r := raidOf(t, w)
		r.reads(t, "all live", -1)
		for d := range w {
			r.without(d).reads(t, "one is lost", -1)
		}
		for at := range 8 {
			is(t, "WriteFull", r.write(at, 7000*at+w), api.OK)
			r.reads(t, "written anew", -1)
		}
		for d := range w {
			r.without(d).reads(t, "one is lost", -1)
		}
	}
}

// Two lost ones are too many: what lives of the data is read, no more is, and nothing is Rebuilt.
func TestTwoAreLost(t *testing.T) {
	for w := 2; w <= 6; w++ {
		r := raidOf(t, w)
		for x := range w {
			for y := range x {
				c := r.without(r.ext[x].Disk, r.ext[y].Disk)
				for slot := range Slots(w) {
					p, _ := Home(c.ext, slot)
					want := failed(api.ErrFailed)
					if !c.b.Dead(p.Disk) {
						want = read(r.slot(slot))
					}
					s, e := Read(c.b, c.ext, slot)
					tells(t, "Read", s, e, want)
				}
				for k := range w {
					for at := range 8 {
						s, e := Rebuilt(c.b, c.ext, k, at)
						tells(t, "Rebuilt", s, e, failed(api.ErrFailed))
					}
				}
				is(t, "WriteFull", c.write(3, 1), api.ErrFailed)
			}
		}
	}
}

// A disk fails at each write of all stripes: each is written, and read.
func TestADiskFailsWhileStripesAreWritten(t *testing.T) {
	for w := 2; w <= 5; w++ {
		for d := range w {
			for n := 1; n <= 8*w+1; n++ {
				r := raidOf(t, w)
				r.b.FailAt(d, n)
				for at := range 8 {
					is(t, "WriteFull", r.write(at, 500*at+n), api.OK)
				}
				if r.b.Dead(d) != (n <= 8*w) {
					t.Fatal(d, n, r.b.Dead(d))
				}
				r.reads(t, "a disk has failed", -1)
			}
		}
	}
}

// Power fails at each write of a stripe, whatever is kept, and one disk is lost then, or none: all other stripes are what they were, and of this one each sector is what it was, or what was to be written.
func TestFalls(t *testing.T) {
	const w, at = 4, 5
	for n := 1; n <= w+1; n++ {
		for _, mask := range masks {
			r := raidOf(t, w)
			were := r.stripe(at)
			r.b.Arm(n, mask)
			want := api.ErrDown
			if n > w {
				want = api.OK
			}
			is(t, "WriteFull", r.write(at, 999), want)
			if n > w {
				r.b.Crash(mask)
			}
			r.b.Start()
			for k, s := range r.stripe(at) {
				got, e := r.b.Read(of(r.ext[k], at))
				if e != api.OK || got != s && got != were[k] {
					t.Fatalf("%d, %x: the extent %d: %x, %v", n, mask, k, got, e)
				}
			}
			r.reads(t, "behind a fall", at)
			for d := range w {
				r.without(d).reads(t, "behind a fall, and one is lost", at)
			}
			is(t, "WriteFull", r.write(at, 998), api.OK)
			r.reads(t, "written anew", -1)
			r.without(1).reads(t, "written anew, and one is lost", -1)
		}
	}
}

// A hole is filled: what Plug tells is the parity of the new data, whichever one is lost, or both that are to be written; with it the stripe is as if it were written whole.
func TestPlugIsTheParityOfTheNewData(t *testing.T) {
	for w := 2; w <= 7; w++ {
		r := raidOf(t, w)
		l := layoutOf(r.ext)
		for slot := range Slots(w) {
			s := mixed(90000 + slot)
			n := l.slots[slot]
			r.data[n.t][n.i] = s
			home, parity := l.home(slot), l.parity[n.t]
			want := read(r.data[n.t]...)
			for d := range w {
				c := r.without(d)
				p, e := Plug(c.b, c.ext, slot, s)
				tells(t, "Plug", p, e, want)
			}
			c := r.without(home.Disk, parity.Disk)
			p, e := Plug(c.b, c.ext, slot, s)
			tells(t, "Plug", p, e, want)
			p, e = Plug(r.b, r.ext, slot, s)
			tells(t, "Plug", p, e, want)
			is(t, "Write", r.b.Write(home, s), api.OK)
			is(t, "Write", r.b.Write(parity, p), api.OK)
		}
		r.reads(t, "all plugged", -1)
		for d := range w {
			r.without(d).reads(t, "all plugged, and one is lost", -1)
		}
	}
}

// Another datum is lost besides: Plug tells the parity as long as the slot and the parity are read, and no more when one of both is lost.
func TestPlugWithAnotherDatumLost(t *testing.T) {
	const w = 5
	r := raidOf(t, w)
	l := layoutOf(r.ext)
	for slot := range Slots(w) {
		n := l.slots[slot]
		data := slices.Clone(r.data[n.t])
		data[n.i] = fresh
		for _, lost := range l.others(slot) {
			c := r.without(lost.Disk)
			p, e := Plug(c.b, c.ext, slot, fresh)
			tells(t, "Plug", p, e, read(data...))
			for _, also := range []api.Place{l.home(slot), l.parity[n.t]} {
				c := r.without(lost.Disk, also.Disk)
				p, e := Plug(c.b, c.ext, slot, fresh)
				tells(t, "Plug", p, e, failed(api.ErrFailed))
			}
		}
	}
}

// What was lost is made anew on another disk, extent by extent: then another one may be lost.
func TestRebuiltOnAnotherDisk(t *testing.T) {
	for w := 2; w <= 6; w++ {
		for k := range w {
			r := raidOf(t, w)
			r.b.Fail(r.ext[k].Disk)
			d, e := r.b.Add(30)
			is(t, "Add", e, api.OK)
			to := api.Extent{Disk: d, At: 11}
			for at := range 8 {
				s, e := Rebuilt(r.b, r.ext, k, at)
				is(t, "Rebuilt", e, api.OK)
				is(t, "Write", r.b.Write(of(to, at), s), api.OK)
			}
			r.ext[k] = to
			r.reads(t, "rebuilt", -1)
			for _, x := range r.ext {
				r.without(x.Disk).reads(t, "rebuilt, and another one is lost", -1)
			}
		}
	}
}
