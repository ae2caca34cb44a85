package stripe

import (
	"math"
	"slices"
	"testing"

	"braidwork/api"
	"braidwork/disk"
)

// Extents of a bank of begin: on disks that live, each on its own, and two on one; on disks that are lost; beyond its disk's sectors, all of it or the last stripes alone, and below them.
var (
	one   = api.Extent{Disk: 0, At: 0}
	two   = api.Extent{Disk: 1, At: 9}
	three = api.Extent{Disk: 2, At: 16}
	four  = api.Extent{Disk: 3, At: 3}
	near  = api.Extent{Disk: 0, At: 8}
	dead  = api.Extent{Disk: 4, At: 2}
	none  = api.Extent{Disk: 6, At: 2}
	out   = api.Extent{Disk: 5, At: 24}
	half  = api.Extent{Disk: 5, At: 20}
	below = api.Extent{Disk: 5, At: -8}
)

const size = 24 // sectors of each disk of begin

var (
	zeros api.Sector
	fresh = mixed(1 << 20) // what no bank of begin holds
	other = mixed(1 << 21) // likewise
)

// masks are some of each kind.
var masks = []uint64{0, 1, 2, 3, 4, 5, 6, 1 << 63, 0x5555555555555555, math.MaxUint64 - 1, math.MaxUint64}

// mixed is a sector of which each byte hangs on n; those of unlike numbers have no sums that are alike by chance.
func mixed(n int) api.Sector {
	var s api.Sector
	x := uint64(n)*0x9e3779b97f4a7c15 + 1
	for i := range s {
		x ^= x << 13
		x ^= x >> 7
		x ^= x << 17
		s[i] = byte(x >> 24)
	}
	return s
}

// full is the sector of which each byte is v.
func full(v byte) api.Sector {
	var s api.Sector
	for i := range s {
		s[i] = v
	}
	return s
}

// some is n sectors that no bank of begin holds.
func some(n int) []api.Sector {
	l := make([]api.Sector, n)
	for i := range l {
		l[i] = mixed(1<<22 + i)
	}
	return l
}

// sum is the parity of sectors, told anew.
func sum(l ...api.Sector) api.Sector {
	var all api.Sector
	for _, s := range l {
		for i := range s {
			all[i] ^= s[i]
		}
	}
	return all
}

// of is the place of stripe t on an extent.
func of(x api.Extent, t int) api.Place { return api.Place{Disk: x.Disk, At: x.At + t} }

// stock is what a bank of begin holds at a place.
func stock(p api.Place) api.Sector { return mixed(64*p.Disk + p.At) }

// first is what it holds of stripe 0 on an extent.
func first(x api.Extent) api.Sector { return stock(of(x, 0)) }

// begin is a bank of six disks, of which 4 is dead; all that it holds is flushed.
func begin(t *testing.T) *disk.Bank {
	t.Helper()
	b := disk.NewBank()
	for d := range 6 {
		_, e := b.Add(size)
		is(t, "Add", e, api.OK)
		for i := range size {
			p := api.Place{Disk: d, At: i}
			is(t, "Write", b.Write(p, stock(p)), api.OK)
		}
		is(t, "Flush", b.Flush(d), api.OK)
	}
	is(t, "Fail", b.Fail(dead.Disk), api.OK)
	return b
}

// off is a bank of begin without power.
func off(t *testing.T) *disk.Bank {
	t.Helper()
	b := begin(t)
	b.Crash(0)
	return b
}

func is(t *testing.T, what string, got, want api.Errno) {
	t.Helper()
	if got != want {
		t.Fatalf("%s: %v, not %v", what, got, want)
	}
}

// tells asks for a sector and an error, and for nothing beside an error.
func tells(t *testing.T, what string, s api.Sector, e api.Errno, want answer) {
	t.Helper()
	if got := (answer{s, e}); got != want {
		t.Fatalf("%s: %x, %v, not %x, %v", what, s, e, want.s, want.e)
	}
}

type answer struct {
	s api.Sector
	e api.Errno
}

func failed(e api.Errno) answer { return answer{e: e} }

func read(l ...api.Sector) answer { return answer{s: sum(l...)} }

// held is what a place holds.
type held struct {
	p api.Place
	s api.Sector
}

// contents is what all places hold that may be read, be the bank up or not.
func contents(b *disk.Bank) []held {
	b = b.Clone()
	b.Start()
	var l []held
	for d := range b.Count() {
		for i := range b.Sectors(d) {
			p := api.Place{Disk: d, At: i}
			if s, e := b.Read(p); e == api.OK {
				l = append(l, held{p, s})
			}
		}
	}
	return l
}

// holds tells that a bank of begin has these contents, and what it had at all other places.
func holds(t *testing.T, what string, b *disk.Bank, now map[api.Place]api.Sector) {
	t.Helper()
	for _, h := range contents(b) {
		want, ok := now[h.p]
		if !ok {
			want = stock(h.p)
		}
		if h.s != want {
			t.Fatalf("%s: %v holds %x, not %x", what, h.p, h.s, want)
		}
	}
}

// sameBanks tells that both banks are the same in all that is seen, also behind a crash that keeps nothing, and one that keeps every other sector.
func sameBanks(t *testing.T, what string, got, want *disk.Bank) {
	t.Helper()
	if got.Up() != want.Up() || got.Writes() != want.Writes() || got.Loose() != want.Loose() {
		t.Fatalf("%s: %v, %d, %d, not %v, %d, %d", what, got.Up(), got.Writes(), got.Loose(), want.Up(), want.Writes(), want.Loose())
	}
	if !slices.Equal(contents(got), contents(want)) {
		t.Fatalf("%s: unlike contents", what)
	}
	if got.Loose() == 0 {
		return
	}
	for _, mask := range []uint64{0, 0x5555555555555555} {
		g, w := got.Clone(), want.Clone()
		g.Crash(mask)
		w.Crash(mask)
		if !slices.Equal(contents(g), contents(w)) {
			t.Fatalf("%s: unlike contents behind a crash of %x", what, mask)
		}
	}
}

// unread tells that a bank, of which something is loose, is as it was but for being read: no call of Write counted, none was flushed, no disk failed, no power.
func unread(t *testing.T, what string, b, was *disk.Bank) {
	t.Helper()
	if b.Up() != was.Up() || b.Writes() != was.Writes() || b.Loose() != was.Loose() {
		t.Fatalf("%s: %v, %d, %d, not %v, %d, %d", what, b.Up(), b.Writes(), b.Loose(), was.Up(), was.Writes(), was.Loose())
	}
	for d := range b.Count() {
		if b.Dead(d) != was.Dead(d) {
			t.Fatalf("%s: %d is dead: %v", what, d, b.Dead(d))
		}
	}
}

// lent is l with something behind it, so that a call that reads or writes there shows; stayed tells that all of it is as it was.
func lent[T any](l []T, behind ...T) []T {
	return append(slices.Clone(l), behind...)[:len(l)]
}

func stayed[T comparable](t *testing.T, lent, were []T, behind ...T) {
	t.Helper()
	if got := lent[:len(were)+len(behind)]; !slices.Equal(got, slices.Concat(were, behind)) {
		t.Fatalf("%v was handed in, and is %v", were, got)
	}
}

// layout is stripes over some extents, told word by word: of each stripe all its places, its data and its parity, and of each slot its stripe, and the how-manyeth datum of it it is.
type layout struct {
	all, data [8][]api.Place
	parity    [8]api.Place
	slots     []struct{ t, i int }
}

func layoutOf(ext []api.Extent) layout {
	var l layout
	w := len(ext)
	for t := range 8 {
		for k, x := range ext {
			l.all[t] = append(l.all[t], of(x, t))
			if k == w-1-(t%w) {
				l.parity[t] = of(x, t)
				continue
			}
			l.slots = append(l.slots, struct{ t, i int }{t, len(l.data[t])})
			l.data[t] = append(l.data[t], of(x, t))
		}
	}
	return l
}

func (l layout) home(slot int) api.Place {
	s := l.slots[slot]
	return l.data[s.t][s.i]
}

// others is the slot's stripe's data without it, in order.
func (l layout) others(slot int) []api.Place {
	s := l.slots[slot]
	return slices.Delete(slices.Clone(l.data[s.t]), s.i, s.i+1)
}

// mates is these, and the parity.
func (l layout) mates(slot int) []api.Place {
	return append(l.others(slot), l.parity[l.slots[slot].t])
}

// rows are extents on unlike disks, of these numbers, none of which is at the place of another one's.
func rows() [][]api.Extent {
	var all [][]api.Extent
	for _, w := range []int{2, 3, 4, 5, 6, 7, 8, 9, 10, 11, 12, 13, 31, 100} {
		ext := make([]api.Extent, w)
		for k := range ext {
			ext[k] = api.Extent{Disk: (k*7 + 3) % w, At: api.Base + k%5*api.Run}
			if w%7 == 0 {
				ext[k].Disk = k
			}
		}
		all = append(all, ext)
	}
	return all
}

// short are rows of too few extents.
func short() [][]api.Extent { return [][]api.Extent{nil, {}, {one}, {{}}, {dead}, {below}} }

// beyond are numbers of which there are none, where those from 0 to n - 1 are all there are.
func beyond(n int) []int {
	return []int{math.MinInt, -1 << 32, -n - 1, -n, -2, -1, n, n + 1, 2*n - 1, 2 * n, 1 << 32, 1<<32 + 1, math.MaxInt - 1, math.MaxInt}
}
