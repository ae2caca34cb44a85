package disk

import (
	"math"
	"slices"
	"testing"

	"braidwork/api"
)

var zero api.Sector

// sector is one that v tells from all others, at both its ends.
func sector(v int) api.Sector {
	return api.Sector{0: byte(v), 1: byte(v >> 8), 63: byte(v + 1)}
}

func place(disk, at int) api.Place { return api.Place{Disk: disk, At: at} }

// bankOf is a bank with disks of these sizes.
func bankOf(t *testing.T, sizes ...int) *Bank {
	t.Helper()
	b := NewBank()
	for want, n := range sizes {
		if i, e := b.Add(n); i != want || e != api.OK {
			t.Fatalf("Add of %d sectors: %d, %v, not %d", n, i, e, want)
		}
	}
	return b
}

// is holds an error against what it is to be.
func is(t *testing.T, what string, got, want api.Errno) {
	t.Helper()
	if got != want {
		t.Fatalf("%s: %v, not %v", what, got, want)
	}
}

// put writes the sector of v, which is to be OK.
func put(t *testing.T, b *Bank, disk, at, v int) {
	t.Helper()
	is(t, "Write", b.Write(place(disk, at), sector(v)), api.OK)
}

// flush is to be OK.
func flush(t *testing.T, b *Bank, disk int) {
	t.Helper()
	is(t, "Flush", b.Flush(disk), api.OK)
}

// holds tells that a sector is that of v; zero, if v is below 0.
func holds(t *testing.T, b *Bank, disk, at, v int) {
	t.Helper()
	want := zero
	if v >= 0 {
		want = sector(v)
	}
	if s, e := b.Read(place(disk, at)); s != want || e != api.OK {
		t.Fatalf("Read of %d %d: %x, %v, not %x", disk, at, s, e, want)
	}
}

// fails tells that Read, Write and Flush answer this of a place, and zeros beside it.
func fails(t *testing.T, b *Bank, p api.Place, want api.Errno) {
	t.Helper()
	if s, e := b.Read(p); s != zero || e != want {
		t.Fatalf("Read of %v: %x, %v, not %v", p, s, e, want)
	}
	is(t, "Write", b.Write(p, sector(9)), want)
	if want != api.ErrRange {
		is(t, "Flush", b.Flush(p.Disk), want)
	}
}

// crash lets power fail, and come again.
func crash(t *testing.T, b *Bank, mask uint64) {
	t.Helper()
	b.Crash(mask)
	if b.Up() || b.Loose() != 0 {
		t.Fatalf("behind a crash: Up %v, Loose %d", b.Up(), b.Loose())
	}
	b.Start()
	if !b.Up() {
		t.Fatal("behind a start: not Up")
	}
}

func loose(t *testing.T, b *Bank, want int) {
	t.Helper()
	if n := b.Loose(); n != want {
		t.Fatalf("Loose %d, not %d", n, want)
	}
}

// noDisks are numbers that no disk of a bank of n disks has.
func noDisks(n int) []int {
	return []int{math.MinInt, -32, -1, n, n + 1, 32, 64, math.MaxInt}
}

// noSectors are numbers that no sector of a disk of n sectors has.
func noSectors(n int) []int {
	return []int{math.MinInt, -64, -1, n, n + 1, n + 64, 4096, math.MaxInt}
}

func TestTheChaptersExample(t *testing.T) {
	const a, b, c, d = 10, 11, 12, 13
	bank := bankOf(t, 4)
	put(t, bank, 0, 0, a)
	put(t, bank, 0, 1, b)
	flush(t, bank, 0)
	put(t, bank, 0, 1, c)
	put(t, bank, 0, 0, d)
	crash(t, bank, 2)
	holds(t, bank, 0, 0, d)
	holds(t, bank, 0, 1, b)
}

func TestNewBank(t *testing.T) {
	b := NewBank()
	if b.Count() != 0 || !b.Up() || b.Loose() != 0 || b.Writes() != 0 {
		t.Errorf("Count %d, Up %v, Loose %d, Writes %d", b.Count(), b.Up(), b.Loose(), b.Writes())
	}
	for _, i := range noDisks(0) {
		if b.Sectors(i) != 0 || !b.Dead(i) {
			t.Errorf("disk %d of none: Sectors %d, Dead %v", i, b.Sectors(i), b.Dead(i))
		}
		fails(t, b, place(i, 0), api.ErrNone)
		is(t, "Fail", b.Fail(i), api.ErrNone)
	}
	b.Crash(0)
	b.Start()
}

func TestAdd(t *testing.T) {
	sizes := []int{1, 4096, 2, 160, 4095}
	b := bankOf(t, sizes...)
	if b.Count() != len(sizes) || b.Loose() != 0 || b.Writes() != 0 {
		t.Errorf("Count %d, Loose %d, Writes %d", b.Count(), b.Loose(), b.Writes())
	}
	for i, n := range sizes {
		if b.Sectors(i) != n || b.Dead(i) {
			t.Errorf("disk %d: Sectors %d, Dead %v", i, b.Sectors(i), b.Dead(i))
		}
		for at := range n {
			holds(t, b, i, at, -1)
		}
		for _, at := range noSectors(n) {
			fails(t, b, place(i, at), api.ErrRange)
		}
		put(t, b, i, n-1, 100+i)
		holds(t, b, i, n-1, 100+i)
	}
	for _, i := range noDisks(len(sizes)) {
		if b.Sectors(i) != 0 || !b.Dead(i) {
			t.Errorf("disk %d: Sectors %d, Dead %v", i, b.Sectors(i), b.Dead(i))
		}
	}
}

func TestAddOfAWrongSize(t *testing.T) {
	b := bankOf(t, 3)
	for _, n := range []int{math.MinInt, -4096, -1, 0, 4097, 65537, math.MaxInt} {
		if i, e := b.Add(n); i != 0 || e != api.ErrArg {
			t.Errorf("Add of %d: %d, %v", n, i, e)
		}
	}
	if b.Count() != 1 || b.Sectors(0) != 3 || b.Sectors(1) != 0 {
		t.Error("a wrong size changes the bank")
	}
	if i, e := b.Add(5); i != 1 || e != api.OK {
		t.Errorf("Add behind wrong sizes: %d, %v", i, e)
	}
}

func TestAddUpToTheMost(t *testing.T) {
	if Most != 32 {
		t.Error("Most", Most)
	}
	b := NewBank()
	for want := range 32 {
		if i, e := b.Add(want + 1); i != want || e != api.OK {
			t.Fatalf("Add: %d, %v, not %d", i, e, want)
		}
	}
	put(t, b, 31, 31, 7)
	b.Fail(4)
	for range 2 {
		if i, e := b.Add(1); i != 0 || e != api.ErrFull {
			t.Errorf("Add to 32 disks: %d, %v", i, e)
		}
		if i, e := b.Add(0); i != 0 || e != api.ErrArg {
			t.Errorf("Add of no sectors to 32 disks: %d, %v", i, e)
		}
	}
	if b.Count() != 32 || b.Sectors(31) != 32 || b.Sectors(32) != 0 || !b.Dead(32) {
		t.Error("a disk too many changes the bank")
	}
	holds(t, b, 31, 31, 7)
}

func TestAddInABankThatIsDown(t *testing.T) {
	b := bankOf(t, 2)
	b.Crash(0)
	if i, e := b.Add(3); i != 1 || e != api.OK || b.Up() || b.Dead(1) {
		t.Fatalf("Add: %d, %v, Up %v, Dead %v", i, e, b.Up(), b.Dead(1))
	}
	fails(t, b, place(1, 0), api.ErrDown)
	b.Start()
	holds(t, b, 1, 2, -1)
}

func TestDisksAddedLaterLeaveTheOthers(t *testing.T) {
	b := bankOf(t, 4)
	put(t, b, 0, 1, 1)
	flush(t, b, 0)
	put(t, b, 0, 2, 2)
	for range 31 {
		b.Add(4)
	}
	loose(t, b, 1)
	holds(t, b, 0, 1, 1)
	holds(t, b, 0, 2, 2)
	put(t, b, 20, 2, 3)
	crash(t, b, 2)
	holds(t, b, 0, 1, 1)
	holds(t, b, 0, 2, -1)
	holds(t, b, 20, 2, 3)
}

func TestErrorsInTheirOrder(t *testing.T) {
	b := bankOf(t, 4, 4)
	b.Fail(1)
	for _, down := range []bool{false, true} {
		if down {
			b.Crash(0)
		}
		for _, at := range append(noSectors(4), 0, 3) {
			for _, i := range noDisks(2) {
				fails(t, b, place(i, at), api.ErrNone)
			}
			fails(t, b, place(1, at), api.ErrDead)
			if down {
				fails(t, b, place(0, at), api.ErrDown)
			}
		}
		for _, at := range noSectors(4) {
			if !down {
				fails(t, b, place(0, at), api.ErrRange)
			}
		}
	}
	b.Start()
	for at := range 4 {
		holds(t, b, 0, at, -1)
	}
}

func TestErrorsChangeNothing(t *testing.T) {
	b := bankOf(t, 4, 4)
	put(t, b, 0, 1, 1)
	put(t, b, 1, 2, 2)
	for _, at := range noSectors(4) {
		b.Write(place(0, at), sector(5))
	}
	for _, i := range noDisks(2) {
		b.Write(place(i, 1), sector(5))
		b.Flush(i)
		b.Fail(i)
		b.FailAt(i, 1)
	}
	loose(t, b, 2)
	b.Crash(2)
	is(t, "Write", b.Write(place(0, 1), sector(5)), api.ErrDown)
	is(t, "Flush", b.Flush(0), api.ErrDown)
	loose(t, b, 0)
	b.Start()
	holds(t, b, 0, 1, -1)
	holds(t, b, 1, 2, 2)
}

func TestWhatIsWrittenIsReadAtOnce(t *testing.T) {
	b := bankOf(t, 8, 8)
	for v := range 3 {
		for at := range 8 {
			put(t, b, 0, at, 100*v+at)
			put(t, b, 1, at, 100*v+at+50)
		}
		for at := range 8 {
			holds(t, b, 0, at, 100*v+at)
			holds(t, b, 1, at, 100*v+at+50)
		}
		loose(t, b, 16)
	}
}

func TestNewestIsReadBehindAFlushToo(t *testing.T) {
	b := bankOf(t, 4)
	put(t, b, 0, 3, 1)
	flush(t, b, 0)
	holds(t, b, 0, 3, 1)
	put(t, b, 0, 3, 2)
	holds(t, b, 0, 3, 2)
	is(t, "Write", b.Write(place(0, 3), zero), api.OK)
	holds(t, b, 0, 3, -1)
	crash(t, b, 0)
	holds(t, b, 0, 3, 1)
}

func TestZerosLastAsAllElseDoes(t *testing.T) {
	b := bankOf(t, 4)
	for at := range 3 {
		put(t, b, 0, at, 1)
	}
	flush(t, b, 0)
	for at := range 3 {
		is(t, "Write", b.Write(place(0, at), zero), api.OK)
	}
	c := b.Clone()
	crash(t, b, 5)
	for at, v := range []int{-1, 1, -1} {
		holds(t, b, 0, at, v)
	}
	flush(t, c, 0)
	crash(t, c, 0)
	for at := range 3 {
		holds(t, c, 0, at, -1)
	}
}

func TestASectorIsLooseAlsoWhereNothingChanges(t *testing.T) {
	b := bankOf(t, 4)
	is(t, "Write", b.Write(place(0, 2), zero), api.OK)
	loose(t, b, 1)
	flush(t, b, 0)
	loose(t, b, 0)
	put(t, b, 0, 1, 1)
	flush(t, b, 0)
	put(t, b, 0, 1, 1)
	loose(t, b, 1)
	put(t, b, 0, 2, 2)
	// The sector in which nothing changed is the first loose one.
	crash(t, b, 1)
	holds(t, b, 0, 1, 1)
	holds(t, b, 0, 2, -1)
}

func TestFlushOfOneDiskAlone(t *testing.T) {
	b := bankOf(t, 4, 4, 4)
	for at := range 4 {
		for i := range 3 {
			put(t, b, i, at, 10*i+at)
		}
	}
	loose(t, b, 12)
	flush(t, b, 1)
	loose(t, b, 8)
	flush(t, b, 1)
	loose(t, b, 8)
	crash(t, b, 0)
	for at := range 4 {
		holds(t, b, 0, at, -1)
		holds(t, b, 1, at, 10+at)
		holds(t, b, 2, at, -1)
	}
}

func TestWhatWasFlushedIsThereBehindAnyCrash(t *testing.T) {
	for _, mask := range []uint64{0, 1, 2, 0x5555555555555555, 1 << 63, math.MaxUint64} {
		b := bankOf(t, 100)
		for at := range 100 {
			put(t, b, 0, at, at)
		}
		flush(t, b, 0)
		for range 3 {
			crash(t, b, mask)
			for at := range 100 {
				holds(t, b, 0, at, at)
			}
		}
	}
}

func TestEachMaskKeepsItsOwn(t *testing.T) {
	order := []api.Place{place(1, 3), place(0, 0), place(1, 0), place(2, 2), place(0, 3), place(2, 1)}
	for mask := range uint64(1 << len(order)) {
		b := bankOf(t, 4, 4, 4)
		for i, p := range order {
			put(t, b, p.Disk, p.At, 100+i)
		}
		for i := range 3 {
			flush(t, b, i)
		}
		for i, p := range order {
			put(t, b, p.Disk, p.At, 200+i)
		}
		crash(t, b, mask)
		for i, p := range order {
			want := 100 + i
			if mask&(1<<i) != 0 {
				want = 200 + i
			}
			holds(t, b, p.Disk, p.At, want)
		}
	}
}

func TestWhatACrashKeptOrLostIsSettled(t *testing.T) {
	b := bankOf(t, 4)
	put(t, b, 0, 0, 1)
	put(t, b, 0, 1, 2)
	crash(t, b, 1)
	for _, mask := range []uint64{0, math.MaxUint64} {
		crash(t, b, mask)
		holds(t, b, 0, 0, 1)
		holds(t, b, 0, 1, -1)
	}
}

func TestOrderOfASectorThatIsWrittenTwice(t *testing.T) {
	b := bankOf(t, 4, 4)
	put(t, b, 0, 0, 1)
	put(t, b, 1, 0, 2)
	put(t, b, 0, 0, 3)
	put(t, b, 0, 0, 4)
	loose(t, b, 2)
	crash(t, b, 1)
	holds(t, b, 0, 0, 4)
	holds(t, b, 1, 0, -1)
}

func TestOrderOfASectorThatIsLooseAnew(t *testing.T) {
	b := bankOf(t, 4, 4)
	put(t, b, 0, 0, 1)
	put(t, b, 1, 0, 2)
	put(t, b, 1, 1, 3)
	flush(t, b, 0)
	put(t, b, 0, 0, 4)
	crash(t, b, 4)
	holds(t, b, 0, 0, 4)
	holds(t, b, 1, 0, -1)
	holds(t, b, 1, 1, -1)

	put(t, b, 0, 0, 5)
	put(t, b, 1, 0, 6)
	crash(t, b, 0)
	put(t, b, 1, 0, 7)
	put(t, b, 0, 0, 8)
	crash(t, b, 1)
	holds(t, b, 1, 0, 7)
	holds(t, b, 0, 0, 4)
}

func TestOrderOfWhatIsLeftBehindAFailure(t *testing.T) {
	b := bankOf(t, 4, 4, 4)
	put(t, b, 0, 0, 1)
	put(t, b, 1, 0, 2)
	put(t, b, 2, 0, 3)
	put(t, b, 0, 1, 4)
	is(t, "Fail", b.Fail(1), api.OK)
	loose(t, b, 3)
	crash(t, b, 2)
	holds(t, b, 0, 0, -1)
	holds(t, b, 2, 0, 3)
	holds(t, b, 0, 1, -1)
}

func TestMoreThan64LooseSectors(t *testing.T) {
	const many = 200
	mask := uint64(1<<0 | 1<<5 | 1<<63)
	b := bankOf(t, many, many)
	// From the last sector on, by turns, so that neither numbers nor disks are in the order.
	where := func(i int) api.Place { return place(1-i%2, many-1-i/2) }
	for i := range many {
		put(t, b, where(i).Disk, where(i).At, i)
	}
	loose(t, b, many)
	crash(t, b, mask)
	for i := range many {
		want := -1
		if slices.Contains([]int{0, 5, 63, 64, 69, 127, 128, 133, 191, 192, 197}, i) {
			want = i
		}
		holds(t, b, where(i).Disk, where(i).At, want)
	}
}

func TestCrashOfABankThatIsDownDoesNothing(t *testing.T) {
	b := bankOf(t, 4)
	put(t, b, 0, 0, 1)
	b.Crash(1)
	b.Arm(2, 1)
	b.Crash(0)
	if b.Up() || b.Writes() != 1 {
		t.Fatal("Up", b.Up(), "Writes", b.Writes())
	}
	b.Start()
	holds(t, b, 0, 0, 1)
	put(t, b, 0, 0, 2)
	is(t, "the armed Write", b.Write(place(0, 1), sector(3)), api.ErrDown)
	b.Start()
	holds(t, b, 0, 0, 2)
}

func TestStartOfABankThatIsUpDoesNothing(t *testing.T) {
	b := bankOf(t, 4)
	put(t, b, 0, 0, 1)
	b.Arm(2, 1)
	b.Start()
	loose(t, b, 1)
	put(t, b, 0, 1, 2)
	is(t, "the armed Write", b.Write(place(0, 2), sector(3)), api.ErrDown)
	b.Start()
	b.Start()
	holds(t, b, 0, 0, 1)
	holds(t, b, 0, 1, -1)
}

func TestFail(t *testing.T) {
	b := bankOf(t, 4, 5)
	put(t, b, 0, 0, 1)
	put(t, b, 1, 0, 2)
	flush(t, b, 1)
	put(t, b, 1, 1, 3)
	for range 2 {
		is(t, "Fail", b.Fail(1), api.OK)
		if !b.Dead(1) || b.Dead(0) || b.Sectors(1) != 5 || b.Count() != 2 || !b.Up() {
			t.Fatal("Dead", b.Dead(1), b.Dead(0), "Sectors", b.Sectors(1), "Count", b.Count(), "Up", b.Up())
		}
		loose(t, b, 1)
		fails(t, b, place(1, 0), api.ErrDead)
	}
	holds(t, b, 0, 0, 1)
	for range 2 {
		crash(t, b, math.MaxUint64)
		if !b.Dead(1) {
			t.Fatal("a dead disk lives again")
		}
		fails(t, b, place(1, 0), api.ErrDead)
	}
	holds(t, b, 0, 0, 1)
}

func TestFailInABankThatIsDown(t *testing.T) {
	b := bankOf(t, 4, 4)
	b.Crash(0)
	is(t, "Fail", b.Fail(0), api.OK)
	for _, i := range noDisks(2) {
		is(t, "Fail", b.Fail(i), api.ErrNone)
	}
	if !b.Dead(0) || b.Dead(1) || b.Up() {
		t.Fatal("Dead", b.Dead(0), b.Dead(1), "Up", b.Up())
	}
	b.Start()
	fails(t, b, place(0, 0), api.ErrDead)
	holds(t, b, 1, 0, -1)
}

func TestWritesCountWhateverTheyAnswer(t *testing.T) {
	b := bankOf(t, 4, 4)
	b.Fail(1)
	want := 0
	writes := func(p api.Place, counts bool) {
		t.Helper()
		b.Write(p, sector(1))
		if counts {
			want++
		}
		if b.Writes() != want {
			t.Fatalf("behind Write of %v: Writes %d, not %d", p, b.Writes(), want)
		}
	}
	all := []api.Place{place(0, 0), place(0, 0), place(0, 4), place(0, -1), place(1, 0), place(2, 0), place(-1, 0)}
	for _, p := range all {
		writes(p, true)
	}
	b.Read(place(0, 0))
	b.Flush(0)
	writes(place(0, 1), true)
	b.Arm(1, 0)
	writes(place(0, 2), true)
	for _, p := range all {
		writes(p, false)
	}
	b.Start()
	writes(place(0, 3), true)
}
