package metalog

import (
	"bytes"
	"math"
	"slices"
	"testing"

	"braidwork/api"
	"braidwork/disk"
)

const big = 1 << 32

// far are generations that there are not, near some that there are.
var (
	far  = []int{math.MinInt, -big + 7, -256, -1, big, big + 7, 1 << 40, math.MaxInt}
	near = []int{0, 1, 7, 255, 256, 65536, 1<<31 - 1, 1 << 31, big - 2, big - 1}
)

// noDisks are numbers of disks that a bank of n does not have.
func noDisks(n int) []int { return []int{math.MinInt, -big, -1, n, n + 1, 31, 32, big, math.MaxInt} }

// masks are some of each kind.
var masks = []uint64{0, 1, 2, 3, 4, 5, 6, 1 << 63, 0x5555555555555555, 0xaaaaaaaaaaaaaaaa, math.MaxUint64 - 1, math.MaxUint64}

// bankOf is a bank with n disks of 160 sectors.
func bankOf(t *testing.T, n int) *disk.Bank {
	t.Helper()
	b := disk.NewBank()
	for range n {
		if _, e := b.Add(160); e != api.OK {
			t.Fatal("Add", e)
		}
	}
	return b
}

// count is n bytes that are none of them 0, from first on, and go round at 251.
func count(first, n int) []byte {
	b := make([]byte, n)
	for i := range b {
		b[i] = byte((first+i)%251 + 1)
	}
	return b
}

// number is v in four bytes.
func number(v int) []byte { return []byte{byte(v >> 24), byte(v >> 16), byte(v >> 8), byte(v)} }

// plain is the sector that says this of itself, right or not, as chapter 8 tells it.
func plain(gen, num, part, parts int, held []byte) api.Sector {
	var s api.Sector
	copy(s[:], slices.Concat(number(gen), number(num), []byte{byte(part), byte(parts), byte(len(held))}, held))
	return s
}

// plainSplit is the sectors of a record that may be one.
func plainSplit(gen, num int, b []byte) []api.Sector {
	parts := max(1, (len(b)+52)/53)
	var l []api.Sector
	for i := range parts {
		l = append(l, plain(gen, num, i, parts, b[53*i:min(53*i+53, len(b))]))
	}
	return l
}

// put makes s what the disk d has at this sector of its journal.
func put(t *testing.T, b *disk.Bank, d, at int, s api.Sector) {
	t.Helper()
	is(t, "Write", b.Write(api.Place{Disk: d, At: 2 + at}, s), api.OK)
	is(t, "Flush", b.Flush(d), api.OK)
}

// lay puts sectors into the journal of a disk, from at on.
func lay(t *testing.T, b *disk.Bank, d, at int, l ...api.Sector) {
	t.Helper()
	for i, s := range l {
		put(t, b, d, at+i, s)
	}
}

// layRecords puts these records into the journals of disks, one behind the other, and tells how many sectors they take.
func layRecords(t *testing.T, b *disk.Bank, disks []int, gen int, records ...[]byte) int {
	t.Helper()
	used := 0
	for i, r := range records {
		l := plainSplit(gen, i, r)
		for _, d := range disks {
			lay(t, b, d, used, l...)
		}
		used += len(l)
	}
	return used
}

func is(t *testing.T, what string, got, want api.Errno) {
	t.Helper()
	if got != want {
		t.Fatalf("%s: %v, not %v", what, got, want)
	}
}

// scan is Scan, twice: the first answer is written over ahead of the second call; neither changes the bank, or live.
func scan(t *testing.T, b *disk.Bank, live []int, gen int) ([][]byte, int, api.Errno) {
	t.Helper()
	lent := slices.Concat(live, []int{-5, -6})
	was := b.Clone()
	first, used, e := Scan(b, lent[:len(live)], gen)
	var kept [][]byte
	for i, r := range first {
		kept = append(kept, slices.Clone(r))
		r = r[:cap(r)]
		for k := range r {
			r[k] = 0xee
		}
		for _, other := range first[:i] {
			if len(other) > 0 && other[0] != 0xee {
				t.Fatal("two records share memory")
			}
		}
	}
	second, again, e2 := Scan(b, lent[:len(live)], gen)
	if again != used || e2 != e || !sameRecords(second, kept) {
		t.Fatalf("Scan(%v, %d): %v, %d, %v, and then %v, %d, %v", live, gen, kept, used, e, second, again, e2)
	}
	if !slices.Equal(lent, slices.Concat(live, []int{-5, -6})) {
		t.Fatalf("%v was handed in, and is %v", live, lent)
	}
	sameBanks(t, b, was)
	return second, used, e
}

func sameRecords(x, y [][]byte) bool { return slices.EqualFunc(x, y, bytes.Equal) }

// scans tells that Scan tells these records, and so many sectors.
func scans(t *testing.T, what string, b *disk.Bank, live []int, gen, used int, want ...[]byte) {
	t.Helper()
	if l, n, e := scan(t, b, live, gen); !sameRecords(l, want) || n != used || e != api.OK {
		t.Fatalf("%s: Scan(%v, %d): %d records, %v, %d sectors, %v, not %d records, %v, %d", what, live, gen, len(l), l, n, e, len(want), want, used)
	}
}

// scansNot tells that Scan answers this error.
func scansNot(t *testing.T, what string, b *disk.Bank, live []int, gen int, want api.Errno) {
	t.Helper()
	if l, n, e := scan(t, b, live, gen); len(l) != 0 || n != 0 || e != want {
		t.Fatalf("%s: Scan(%v, %d): %v, %d, %v, not %v", what, live, gen, l, n, e, want)
	}
}

// add is Append, of bytes that are to stay as they were, and are written over then; it tells that the log is as it should be behind it.
func add(t *testing.T, l *Log, r []byte, want api.Errno) {
	t.Helper()
	next, room := l.Next(), l.Room()
	if want == api.OK {
		next++
		room -= max(1, (len(r)+52)/53)
	}
	lent := slices.Concat(r, []byte{0xee, 0xef})
	if e := l.Append(lent[:len(r)]); e != want {
		t.Fatalf("Append of %d bytes: %v, not %v", len(r), e, want)
	}
	if !bytes.Equal(lent, slices.Concat(r, []byte{0xee, 0xef})) {
		t.Fatalf("%v was handed in, and is %v", r, lent)
	}
	clear(lent)
	has(t, l, next, room)
}

// has tells that the log has so many records, and so much room.
func has(t *testing.T, l *Log, next, room int) {
	t.Helper()
	if l.Next() != next || l.Room() != room {
		t.Fatalf("Next %d, Room %d, not %d, %d", l.Next(), l.Room(), next, room)
	}
}

// sameBanks tells that both banks are the same in all that is seen, also what is loose, and in which order.
func sameBanks(t *testing.T, got, want *disk.Bank) {
	t.Helper()
	if got.Up() != want.Up() || got.Writes() != want.Writes() || got.Loose() != want.Loose() || got.Count() != want.Count() {
		t.Fatalf("Up %v, Writes %d, Loose %d, Count %d, not %v, %d, %d, %d", got.Up(), got.Writes(), got.Loose(), got.Count(), want.Up(), want.Writes(), want.Loose(), want.Count())
	}
	sameSectors(t, "now", got, want)
	if got.Loose() == 0 {
		return
	}
	for _, mask := range masks {
		g, w := got.Clone(), want.Clone()
		g.Crash(mask)
		w.Crash(mask)
		sameSectors(t, "behind a crash", g, w)
	}
}

// sameSectors tells that all sectors hold the same.
func sameSectors(t *testing.T, when string, got, want *disk.Bank) {
	t.Helper()
	if !got.Up() {
		got, want = got.Clone(), want.Clone()
		got.Start()
		want.Start()
	}
	for d := range want.Count() {
		if got.Dead(d) != want.Dead(d) || got.Sectors(d) != want.Sectors(d) {
			t.Fatalf("%s: the disk %d: Dead %v, Sectors %d", when, d, got.Dead(d), got.Sectors(d))
		}
		for at := range min(want.Sectors(d), 120) {
			p := api.Place{Disk: d, At: at}
			x, e1 := got.Read(p)
			y, e2 := want.Read(p)
			if x != y || e1 != e2 {
				t.Fatalf("%s: %v holds %x, %v, not %x, %v", when, p, x, e1, y, e2)
			}
		}
	}
}
