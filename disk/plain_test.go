package disk

import (
	"math/rand"
	"slices"
	"testing"

	"braidwork/api"
)

// plain is a bank as the chapter tells it, word by word: each disk has both contents of all its sectors, and what is loose stands in one row.
type plain struct {
	disks  []plainDisk
	loose  []api.Place // in the order in which each became so
	down   bool
	writes int
	armed  int // 0: nothing is
	mask   uint64
}

type plainDisk struct {
	flushed, newest []api.Sector
	dead            bool
	failAt          int // 0: never
}

func (b *plain) Add(sectors int) (int, api.Errno) {
	if sectors < 1 || sectors > 4096 {
		return 0, api.ErrArg
	}
	if len(b.disks) >= 32 {
		return 0, api.ErrFull
	}
	b.disks = append(b.disks, plainDisk{flushed: make([]api.Sector, sectors), newest: make([]api.Sector, sectors)})
	return len(b.disks) - 1, api.OK
}

func (b *plain) errorOf(disk int) api.Errno {
	if disk < 0 || disk >= len(b.disks) {
		return api.ErrNone
	}
	if b.disks[disk].dead {
		return api.ErrDead
	}
	if b.down {
		return api.ErrDown
	}
	return api.OK
}

func (b *plain) errorAt(p api.Place) api.Errno {
	if e := b.errorOf(p.Disk); e != api.OK {
		return e
	}
	if p.At < 0 || p.At >= len(b.disks[p.Disk].newest) {
		return api.ErrRange
	}
	return api.OK
}

func (b *plain) Read(p api.Place) (api.Sector, api.Errno) {
	if e := b.errorAt(p); e != api.OK {
		return api.Sector{}, e
	}
	return b.disks[p.Disk].newest[p.At], api.OK
}

func (b *plain) Write(p api.Place, s api.Sector) api.Errno {
	if !b.down {
		b.writes++
		for i := range b.disks {
			if b.disks[i].failAt == b.writes {
				b.Fail(i)
			}
		}
		if b.armed == b.writes {
			b.Crash(b.mask)
			return api.ErrDown
		}
	}
	e := b.errorAt(p)
	if e != api.OK {
		return e
	}
	b.disks[p.Disk].newest[p.At] = s
	if !slices.Contains(b.loose, p) {
		b.loose = append(b.loose, p)
	}
	return api.OK
}

func (b *plain) Flush(disk int) api.Errno {
	e := b.errorOf(disk)
	if e != api.OK {
		return e
	}
	copy(b.disks[disk].flushed, b.disks[disk].newest)
	b.noneLooseOn(disk)
	return api.OK
}

func (b *plain) noneLooseOn(disk int) {
	b.loose = slices.DeleteFunc(b.loose, func(p api.Place) bool { return p.Disk == disk })
}

func (b *plain) Crash(mask uint64) {
	if b.down {
		return
	}
	for i, p := range b.loose {
		d := b.disks[p.Disk]
		if mask/(1<<(i%64))%2 == 1 {
			d.flushed[p.At] = d.newest[p.At]
		} else {
			d.newest[p.At] = d.flushed[p.At]
		}
	}
	b.loose, b.armed, b.down = nil, 0, true
}

func (b *plain) Start() { b.down = false }

func (b *plain) Fail(disk int) api.Errno {
	if disk < 0 || disk >= len(b.disks) {
		return api.ErrNone
	}
	b.disks[disk].dead = true
	b.noneLooseOn(disk)
	return api.OK
}

func (b *plain) Arm(n int, mask uint64) {
	b.armed, b.mask = 0, mask
	if n > 0 {
		b.armed = b.writes + n
	}
}

func (b *plain) FailAt(disk, n int) {
	if disk < 0 || disk >= len(b.disks) {
		return
	}
	b.disks[disk].failAt = 0
	if n > 0 {
		b.disks[disk].failAt = b.writes + n
	}
}

// sameAs holds all that a bank tells against it; what sectors are while it is down is seen in a clone that is started.
func (b *plain) sameAs(t *testing.T, got *Bank) {
	t.Helper()
	if got.Count() != len(b.disks) || got.Up() == b.down || got.Writes() != b.writes || got.Loose() != len(b.loose) {
		t.Fatalf("Count %d, Up %v, Writes %d, Loose %d, not %d, %v, %d, %d", got.Count(), got.Up(), got.Writes(), got.Loose(), len(b.disks), !b.down, b.writes, len(b.loose))
	}
	up := got.Clone()
	up.Start()
	for i, d := range b.disks {
		if got.Dead(i) != d.dead || got.Sectors(i) != len(d.newest) {
			t.Fatalf("disk %d: Dead %v, Sectors %d, not %v, %d", i, got.Dead(i), got.Sectors(i), d.dead, len(d.newest))
		}
		for at := range d.newest {
			want, e := d.newest[at], api.OK
			if d.dead {
				want, e = api.Sector{}, api.ErrDead
			}
			if s, is := up.Read(api.Place{Disk: i, At: at}); s != want || is != e {
				t.Fatalf("Read of %d %d: %x, %v, not %x, %v", i, at, s[:2], is, want[:2], e)
			}
		}
	}
}

// step does one call, chosen by r, to both banks.
func (b *plain) step(t *testing.T, got *Bank, r *rand.Rand) {
	t.Helper()
	p := api.Place{Disk: r.Intn(len(b.disks)+2) - 1, At: r.Intn(9) - 1}
	hold := func(call string, want, e api.Errno) {
		t.Helper()
		if e != want {
			t.Fatalf("%s of %v: %v, not %v", call, p, e, want)
		}
	}
	n, mask := r.Intn(14)-3, r.Uint64()
	switch r.Intn(40) {
	case 0:
		want, e := b.Add(p.At)
		if i, is := got.Add(p.At); i != want || is != e {
			t.Fatalf("Add of %d: %d, %v, not %d, %v", p.At, i, is, want, e)
		}
	case 1:
		b.Crash(mask)
		got.Crash(mask)
	case 2:
		if r.Intn(8) == 0 {
			hold("Fail", b.Fail(p.Disk), got.Fail(p.Disk))
		}
	case 3:
		b.Arm(n, mask)
		got.Arm(n, mask)
	case 4:
		if r.Intn(4) == 0 {
			b.FailAt(p.Disk, n)
			got.FailAt(p.Disk, n)
		}
	case 5, 6, 7:
		b.Start()
		got.Start()
	case 8, 9, 10:
		hold("Flush", b.Flush(p.Disk), got.Flush(p.Disk))
	case 11, 12, 13, 14:
		want, e := b.Read(p)
		if s, is := got.Read(p); s != want || is != e {
			t.Fatalf("Read of %v: %x, %v, not %x, %v", p, s[:2], is, want[:2], e)
		}
	default:
		s := api.Sector{byte(r.Intn(4)), 63: byte(r.Intn(2))}
		hold("Write", b.Write(p, s), got.Write(p, s))
	}
}

// A bank and a plain one are done the same to, in a row that is the same in each run; a clone goes on in the bank's stead now and then.
func TestManyCalls(t *testing.T) {
	for seed := range int64(60) {
		r := rand.New(rand.NewSource(seed))
		want, got := &plain{}, NewBank()
		for i := range 300 {
			want.step(t, got, r)
			want.sameAs(t, got)
			if i%50 == 49 {
				got = got.Clone()
			}
		}
	}
}
