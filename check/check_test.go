package check

import (
	"bytes"
	"math"
	"slices"
	"testing"

	"braidwork/api"
	"braidwork/disk"
)

const big = 1 << 32

// far are generations that there are not, near some that there are.
var (
	far  = []int{math.MinInt, -big + 7, -256, -1, big, big + 7, 1 << 40, math.MaxInt}
	near = []int{0, 1, 7, 255, 256, 65536, 1<<31 - 1, 1 << 31, big - 2, big - 1}
)

// noAreas are some that there are not.
var noAreas = []int{math.MinInt, -big, -256, -2, -1, 2, 3, 32, 256, 257, big, big + 1, math.MaxInt}

// noDisks are numbers of disks that a bank of n does not have.
func noDisks(n int) []int { return []int{math.MinInt, -big, -1, n, n + 1, 31, 32, big, math.MaxInt} }

// masks are some of each kind.
var masks = []uint64{0, 1, 2, 3, 4, 5, 6, 1 << 63, 0x5555555555555555, 0xaaaaaaaaaaaaaaaa, math.MaxUint64 - 1, math.MaxUint64}

// bankOf is a bank with n disks of 160 sectors.
func bankOf(t *testing.T, n int) *disk.Bank {
	t.Helper()
	b := disk.NewBank()
	for range n {
		if _, e := b.Add(160); e != api.OK {
			t.Fatal("Add", e)
		}
	}
	return b
}

// count is n bytes that are none of them 0, from first on, and go round at 251.
func count(first, n int) []byte {
	b := make([]byte, n)
	for i := range b {
		b[i] = byte((first+i)%251 + 1)
	}
	return b
}

// four is v in four bytes.
func four(v int) []byte { return []byte{byte(v >> 24), byte(v >> 16), byte(v >> 8), byte(v)} }

// plain is the sector that says this of itself, right or not, as chapter 8 tells it.
func plain(gen, num, part, parts int, held []byte) api.Sector {
	var s api.Sector
	copy(s[:], slices.Concat(four(gen), four(num), []byte{byte(part), byte(parts), byte(len(held))}, held))
	return s
}

// plainParts is how many parts n bytes have.
func plainParts(n int) int { return max(1, (n+52)/53) }

// plainSplit is the sectors of a checkpoint, also of one that has too many.
func plainSplit(gen int, x []byte) []api.Sector {
	parts := plainParts(len(x))
	var l []api.Sector
	for i := range parts {
		l = append(l, plain(gen, 0, i, parts, x[53*i:min(53*i+53, len(x))]))
	}
	return l
}

// place is the i-th sector of an area of the disk d.
func place(d, area, i int) api.Place { return api.Place{Disk: d, At: 50 + 32*area + i} }

// put makes s what the disk d has at this sector of the area.
func put(t *testing.T, b *disk.Bank, d, area, i int, s api.Sector) {
	t.Helper()
	is(t, "Write", b.Write(place(d, area, i), s), api.OK)
	is(t, "Flush", b.Flush(d), api.OK)
}

// lay puts the sectors of a checkpoint into an area of disks.
func lay(t *testing.T, b *disk.Bank, disks []int, area, gen int, x []byte) {
	t.Helper()
	for _, d := range disks {
		for i, s := range plainSplit(gen, x) {
			put(t, b, d, area, i, s)
		}
	}
}

func is(t *testing.T, what string, got, want api.Errno) {
	t.Helper()
	if got != want {
		t.Fatalf("%s: %v, not %v", what, got, want)
	}
}

// save is Save, of bytes and a live that are to stay as they were, and are written over then.
func save(t *testing.T, b *disk.Bank, live []int, area, gen int, x []byte, want api.Errno) {
	t.Helper()
	members := slices.Concat(live, []int{-5, -6})
	lent := slices.Concat(x, []byte{0xee, 0xef})
	if e := Save(b, members[:len(live)], area, gen, lent[:len(x)]); e != want {
		t.Fatalf("Save(%v, %d, %d, %d bytes): %v, not %v", live, area, gen, len(x), e, want)
	}
	if !slices.Equal(members, slices.Concat(live, []int{-5, -6})) {
		t.Fatalf("%v was handed in, and is %v", live, members)
	}
	if !bytes.Equal(lent, slices.Concat(x, []byte{0xee, 0xef})) {
		t.Fatalf("%v was handed in, and is %v", x, lent)
	}
	clear(members)
	clear(lent)
}

// load is Load, twice: the first answer is written over ahead of the second call; neither changes the bank, or live.
func load(t *testing.T, b *disk.Bank, live []int) (Found, api.Errno) {
	t.Helper()
	lent := slices.Concat(live, []int{-5, -6})
	was := b.Clone()
	first, e := Load(b, lent[:len(live)])
	kept := first
	kept.Bytes = slices.Clone(first.Bytes)
	all := first.Bytes[:cap(first.Bytes)]
	for i := range all {
		all[i] = 0xee
	}
	second, e2 := Load(b, lent[:len(live)])
	if e2 != e || !sameFound(second, kept) {
		t.Fatalf("Load(%v): %v, %v, and then %v, %v", live, kept, e, second, e2)
	}
	if !slices.Equal(lent, slices.Concat(live, []int{-5, -6})) {
		t.Fatalf("%v was handed in, and is %v", live, lent)
	}
	sameBanks(t, b, was)
	return second, e
}

func sameFound(x, y Found) bool {
	return x.Area == y.Area && x.Gen == y.Gen && x.Seen == y.Seen && bytes.Equal(x.Bytes, y.Bytes)
}

// loads tells that Load tells this checkpoint.
func loads(t *testing.T, what string, b *disk.Bank, live []int, area, gen, seen int, x []byte) {
	t.Helper()
	want := Found{Area: area, Gen: gen, Bytes: x, Seen: seen}
	if f, e := load(t, b, live); e != api.OK || !sameFound(f, want) {
		t.Fatalf("%s: Load(%v): %v, %v, not %v", what, live, f, e, want)
	}
}

// loadsNone tells that Load tells that there is none, and what was seen.
func loadsNone(t *testing.T, what string, b *disk.Bank, live []int, seen int) {
	t.Helper()
	if f, e := load(t, b, live); e != api.ErrNone || !sameFound(f, Found{Seen: seen}) {
		t.Fatalf("%s: Load(%v): %v, %v, not ErrNone, and %d seen", what, live, f, e, seen)
	}
}

// loadsNot tells that Load answers this error, and nothing else.
func loadsNot(t *testing.T, what string, b *disk.Bank, live []int, want api.Errno) {
	t.Helper()
	if f, e := load(t, b, live); e != want || !sameFound(f, Found{}) {
		t.Fatalf("%s: Load(%v): %v, %v, not %v", what, live, f, e, want)
	}
}

// sameBanks tells that both banks are the same in all that is seen, also what is loose, and in which order.
func sameBanks(t *testing.T, got, want *disk.Bank) {
	t.Helper()
	if got.Up() != want.Up() || got.Writes() != want.Writes() || got.Loose() != want.Loose() || got.Count() != want.Count() {
		t.Fatalf("Up %v, Writes %d, Loose %d, Count %d, not %v, %d, %d, %d", got.Up(), got.Writes(), got.Loose(), got.Count(), want.Up(), want.Writes(), want.Loose(), want.Count())
	}
	sameSectors(t, "now", got, want)
	if got.Loose() == 0 {
		return
	}
	for _, mask := range masks {
		g, w := got.Clone(), want.Clone()
		g.Crash(mask)
		w.Crash(mask)
		sameSectors(t, "behind a crash", g, w)
	}
}

// sameSectors tells that all sectors hold the same.
func sameSectors(t *testing.T, when string, got, want *disk.Bank) {
	t.Helper()
	if !got.Up() {
		got, want = got.Clone(), want.Clone()
		got.Start()
		want.Start()
	}
	for d := range want.Count() {
		if got.Dead(d) != want.Dead(d) || got.Sectors(d) != want.Sectors(d) {
			t.Fatalf("%s: the disk %d: Dead %v, Sectors %d", when, d, got.Dead(d), got.Sectors(d))
		}
		for at := range want.Sectors(d) {
			p := api.Place{Disk: d, At: at}
			x, e1 := got.Read(p)
			y, e2 := want.Read(p)
			if x != y || e1 != e2 {
				t.Fatalf("%s: %v holds %x, %v, not %x, %v", when, p, x, e1, y, e2)
			}
		}
	}
}
