package stripe

import (
	"math/rand"
	"testing"

	"braidwork/api"
	"braidwork/disk"
)

// gone tells whether a place of which the bank answers e is lost.
func gone(e api.Errno) bool { return e == api.ErrNone || e == api.ErrDead }

// plainAll is what is read at all these places, and the first error as the chapter tells it, word by word; so are the calls below.
func plainAll(b *disk.Bank, places []api.Place) ([]api.Sector, api.Errno) {
	var l []api.Sector
	lost := 0
	for _, p := range places {
		s, e := b.Read(p)
		if gone(e) {
			lost++
			continue
		}
		if e != api.OK {
			return nil, e
		}
		l = append(l, s)
	}
	if lost > 0 {
		return nil, api.ErrFailed
	}
	return l, api.OK
}

func plainSum(b *disk.Bank, places []api.Place, more ...api.Sector) answer {
	l, e := plainAll(b, places)
	if e != api.OK {
		return failed(e)
	}
	return read(append(l, more...)...)
}

func plainRead(b *disk.Bank, ext []api.Extent, slot int) answer {
	if len(ext) < 2 {
		return failed(api.ErrArg)
	}
	l := layoutOf(ext)
	if slot < 0 || slot >= len(l.slots) {
		return failed(api.ErrRange)
	}
	s, e := b.Read(l.home(slot))
	if !gone(e) {
		return answer{s, e}
	}
	return plainSum(b, l.mates(slot))
}

func plainRebuilt(b *disk.Bank, ext []api.Extent, k, at int) answer {
	if len(ext) < 2 || k < 0 || k >= len(ext) {
		return failed(api.ErrArg)
	}
	if at < 0 || at >= 8 {
		return failed(api.ErrRange)
	}
	var others []api.Place
	for i, p := range layoutOf(ext).all[at] {
		if i != k {
			others = append(others, p)
		}
	}
	return plainSum(b, others)
}

func plainWriteFull(b *disk.Bank, ext []api.Extent, at int, data []api.Sector) api.Errno {
	if len(ext) < 2 || len(data) != len(ext)-1 {
		return api.ErrArg
	}
	if at < 0 || at >= 8 {
		return api.ErrRange
	}
	l := layoutOf(ext)
	lost := 0
	for i, p := range l.data[at] {
		e := b.Write(p, data[i])
		if gone(e) {
			lost++
		} else if e != api.OK {
			return e
		}
	}
	e := b.Write(l.parity[at], sum(data...))
	if gone(e) {
		lost++
	} else if e != api.OK {
		return e
	}
	if lost > 1 {
		return api.ErrFailed
	}
	return api.OK
}

func plainPlug(b *disk.Bank, ext []api.Extent, slot int, s api.Sector) answer {
	if len(ext) < 2 {
		return failed(api.ErrArg)
	}
	l := layoutOf(ext)
	if slot < 0 || slot >= len(l.slots) {
		return failed(api.ErrRange)
	}
	old, e := b.Read(l.home(slot))
	if e != api.OK && !gone(e) {
		return failed(e)
	}
	parity, also := b.Read(l.parity[l.slots[slot].t])
	if also != api.OK && !gone(also) {
		return failed(also)
	}
	if e == api.OK && also == api.OK {
		return read(old, parity, s)
	}
	return plainSum(b, l.others(slot), s)
}

// asPlain tells that all calls that read answer what the plain ones do, and change nothing.
func asPlain(t *testing.T, b *disk.Bank, ext []api.Extent, slot, k, at int) {
	t.Helper()
	was := b.Clone()
	s, e := Read(b, ext, slot)
	tells(t, "Read", s, e, plainRead(was, ext, slot))
	s, e = Rebuilt(b, ext, k, at)
	tells(t, "Rebuilt", s, e, plainRebuilt(was, ext, k, at))
	s, e = Plug(b, ext, slot, other)
	tells(t, "Plug", s, e, plainPlug(was, ext, slot, other))
	unread(t, "behind reading", b, was)
}

// writesAsPlain tells that WriteFull does what the plain one does, and leaves the same.
func writesAsPlain(t *testing.T, b *disk.Bank, ext []api.Extent, at int, data []api.Sector) {
	t.Helper()
	c := b.Clone()
	is(t, "WriteFull", WriteFull(b, ext, at, data), plainWriteFull(c, ext, at, data))
	sameBanks(t, "WriteFull", b, c)
}

// each hands on all rows of w of these extents.
func each(kinds []api.Extent, w int, do func([]api.Extent)) {
	var more func(ext []api.Extent)
	more = func(ext []api.Extent) {
		if len(ext) == w {
			do(ext)
			return
		}
		for _, x := range kinds {
			more(append(ext[:len(ext):len(ext)], x))
		}
	}
	more(nil)
}

// All kinds of extents in each order, with and without power: each slot, each extent, each stripe.
func TestReadingAllKindsOfExtents(t *testing.T) {
	up, down := begin(t), begin(t)
	is(t, "Write", up.Write(of(near, 2), fresh), api.OK)
	down.Crash(0)
	for w, kinds := range map[int][]api.Extent{
		0: nil,
		1: {one, dead},
		2: {one, two, near, dead, none, out, half, below},
		3: {one, two, near, dead, none, half, below},
		4: {one, two, dead, none, half},
		5: {one, two, dead, out},
	} {
		each(kinds, w, func(ext []api.Extent) {
			for _, b := range []*disk.Bank{up, down} {
				for slot := -1; slot <= max(8*(w-1), 0); slot++ {
					asPlain(t, b, ext, slot, slot%max(w+1, 1), slot%9)
				}
			}
		})
	}
	for w := 2; w < 6; w++ {
		ext := []api.Extent{one, two, three, four, half}[:w]
		for lost := -1; lost < w; lost++ {
			b := begin(t)
			if lost >= 0 {
				is(t, "Fail", b.Fail(ext[lost].Disk), api.OK)
			}
			for at := -1; at < 9; at++ {
				for k := -1; k <= w; k++ {
					asPlain(t, b, ext, 0, k, at)
				}
			}
		}
	}
}

// Likewise what is written, whatever is armed.
func TestWritingAllKindsOfExtents(t *testing.T) {
	first := begin(t)
	for w, kinds := range map[int][]api.Extent{
		2: {one, two, near, dead, none, half, below},
		3: {one, two, near, dead, half},
		4: {one, two, none, out},
	} {
		n := 0
		each(kinds, w, func(ext []api.Extent) {
			for range 4 {
				b := first.Clone()
				b.FailAt(0, n%4)
				b.FailAt(1, n/4%5)
				b.Arm(n/7%6, masks[n%len(masks)])
				if n%23 == 0 {
					b.Crash(0)
				}
				writesAsPlain(t, b, ext, n%10-1, some(w-1))
				n++
			}
		})
	}
}

// Rows of calls, falls and failures, that are the same in each run.
func TestManyCalls(t *testing.T) {
	first := begin(t)
	kinds := []api.Extent{one, two, three, four, near, half, dead, none, {Disk: 5, At: 5}, {Disk: 1, At: 0}, {Disk: 2, At: 4}}
	for seed := range int64(200) {
		r := rand.New(rand.NewSource(seed))
		b := first.Clone()
		var ext []api.Extent
		for range 1 + r.Intn(7) {
			ext = append(ext, kinds[r.Intn(len(kinds))])
		}
		for range 30 {
			switch r.Intn(20) {
			case 0:
				b.Crash(r.Uint64())
			case 1, 2:
				b.Arm(r.Intn(8), r.Uint64())
			case 3:
				b.FailAt(r.Intn(6), r.Intn(12))
			case 4:
				b.Flush(r.Intn(6))
			case 5:
				ext[r.Intn(len(ext))] = kinds[r.Intn(len(kinds))]
			}
			data := make([]api.Sector, max(len(ext)-1, 0))
			for i := range data {
				data[i] = mixed(r.Intn(1 << 30))
			}
			writesAsPlain(t, b, ext, r.Intn(9), data)
			for range 4 {
				asPlain(t, b, ext, r.Intn(8*len(ext)+1), r.Intn(len(ext)+1), r.Intn(9))
			}
			if !b.Up() && r.Intn(3) > 0 {
				b.Start()
			}
		}
	}
}
