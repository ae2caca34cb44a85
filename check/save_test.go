package check

import (
	"slices"
	"testing"

	"braidwork/api"
	"braidwork/disk"
)

func TestTheExample(t *testing.T) {
	b := bankOf(t, 3)
	save(t, b, []int{0, 1, 2}, 1, 3, []byte("ab"), api.OK)
	loads(t, "the example", b, []int{0, 1, 2}, 1, 3, 3, []byte("ab"))
}

func TestACheckpointsBytesByHand(t *testing.T) {
	b := bankOf(t, 1)
	want := b.Clone()
	save(t, b, []int{0}, 0, 7, []byte("ab"), api.OK)
	want.Write(api.Place{At: 50}, api.Sector{0, 0, 0, 7, 0, 0, 0, 0, 0, 1, 2, 'a', 'b'})
	want.Flush(0)
	save(t, b, []int{0}, 1, 1<<24+2, nil, api.OK)
	want.Write(api.Place{At: 82}, api.Sector{1, 0, 0, 2, 0, 0, 0, 0, 0, 1, 0})
	want.Flush(0)
	sameBanks(t, b, want)
}

// Each live member has each part at its place, all of it flushed; nothing else is written, or flushed.
func TestWhatSaveWrites(t *testing.T) {
	for i, n := range []int{0, 1, 52, 53, 54, 106, 107, 530, 1643, 1644, 1695, 1696} {
		for _, gen := range near {
			for area := range 2 {
				b := bankOf(t, 4)
				lay(t, b, []int{0, 1, 2, 3}, 0, 5, count(3, 1696))
				lay(t, b, []int{0, 1, 2, 3}, 1, 6, count(4, 1696))
				b.Write(api.Place{Disk: 3, At: 120}, api.Sector{9})
				want := b.Clone()
				x := count(i, n)
				save(t, b, []int{2, 0}, area, gen, x, api.OK)
				for _, d := range []int{2, 0} {
					for k, s := range plainSplit(gen, x) {
						want.Write(place(d, area, k), s)
					}
					want.Flush(d)
				}
				sameBanks(t, b, want)
			}
		}
	}
}

// What was loose on a live member ahead of Save is flushed with it, for a flush is the whole disk's.
func TestSaveFlushesTheMember(t *testing.T) {
	b := bankOf(t, 2)
	b.Write(api.Place{Disk: 0, At: 120}, api.Sector{1})
	b.Write(api.Place{Disk: 1, At: 120}, api.Sector{1})
	save(t, b, []int{1}, 0, 7, nil, api.OK)
	if b.Loose() != 1 {
		t.Fatal("Loose", b.Loose())
	}
}

func TestAnAreaThatIsNone(t *testing.T) {
	b := bankOf(t, 2)
	was := b.Clone()
	for _, area := range noAreas {
		save(t, b, []int{0, 1}, area, 7, count(0, 60), api.ErrArg)
		save(t, b, []int{0, 1}, area, -1, count(0, 2121), api.ErrArg)
	}
	sameBanks(t, b, was)
}

func TestAGenerationThatIsNone(t *testing.T) {
	b := bankOf(t, 2)
	was := b.Clone()
	for _, gen := range far {
		for area := range 2 {
			for _, n := range []int{0, 1, 60, 1696} {
				save(t, b, []int{0, 1}, area, gen, count(0, n), api.ErrArg)
			}
		}
	}
	sameBanks(t, b, was)
}

func TestAStateThatHasNoRoom(t *testing.T) {
	b := bankOf(t, 2)
	lay(t, b, []int{0, 1}, 0, 6, count(1, 1696))
	was := b.Clone()
	for _, n := range []int{1697, 1698, 1749, 1750, 2119, 2120, 2121, 2173, 4240, 100000} {
		for area := range 2 {
			save(t, b, []int{0, 1}, area, 7, make([]byte, n), api.ErrArg)
		}
	}
	sameBanks(t, b, was)
}

// ErrArg stands ahead of what the bank answers, and of there being no members.
func TestErrArgIsFirst(t *testing.T) {
	b := bankOf(t, 2)
	b.Fail(0)
	wrong := func(live []int) {
		t.Helper()
		save(t, b, live, 2, 7, nil, api.ErrArg)
		save(t, b, live, 0, -1, nil, api.ErrArg)
		save(t, b, live, 0, 7, make([]byte, 1697), api.ErrArg)
		save(t, b, live, 0, 7, make([]byte, 2121), api.ErrArg)
	}
	wrong(nil)
	wrong([]int{0})
	b.Crash(0)
	wrong([]int{1})
	if b.Writes() != 0 {
		t.Fatal("Writes", b.Writes())
	}
}

func TestNoLiveMembers(t *testing.T) {
	b := bankOf(t, 2)
	was := b.Clone()
	save(t, b, nil, 0, 7, count(0, 5), api.ErrFailed)
	save(t, b, []int{}, 1, 7, count(0, 5), api.ErrFailed)
	b.Crash(0)
	save(t, b, nil, 0, 7, count(0, 5), api.ErrFailed)
	b.Start()
	sameBanks(t, b, was)
}

// A place of live without a disk is asked once in each call, and passed over.
func TestADiskThatThereIsNot(t *testing.T) {
	for _, d := range noDisks(2) {
		b := bankOf(t, 2)
		save(t, b, []int{d, 1, d}, 0, 7, count(0, 160), api.OK)
		if b.Writes() != 1+4+1 {
			t.Fatal("Writes", b.Writes())
		}
		loads(t, "of 1", b, []int{1}, 0, 7, 7, count(0, 160))
		loadsNone(t, "of 0", b, []int{0}, 0)
		save(t, b, []int{d, d}, 1, 8, count(0, 160), api.ErrFailed)
		if b.Writes() != 6+2 {
			t.Fatal("Writes", b.Writes())
		}
	}
}

func TestAMemberThatStandsThereTwice(t *testing.T) {
	b := bankOf(t, 2)
	save(t, b, []int{0, 1, 0}, 1, 7, count(0, 60), api.OK)
	if b.Writes() != 6 || b.Loose() != 0 {
		t.Fatal("Writes", b.Writes(), "Loose", b.Loose())
	}
	loads(t, "of 0", b, []int{0}, 1, 7, 7, count(0, 60))
	// It fails at its second place: it was not passed over at the first one.
	b = bankOf(t, 1)
	b.FailAt(0, 3)
	save(t, b, []int{0, 0}, 1, 7, count(0, 60), api.OK)
	if b.Writes() != 3 {
		t.Fatal("Writes", b.Writes())
	}
	// Dead, it is asked once at each of its places.
	save(t, b, []int{0, 0}, 1, 7, count(0, 60), api.ErrFailed)
	if b.Writes() != 5 {
		t.Fatal("Writes", b.Writes())
	}
}

// A member fails at each of the writes of a checkpoint: ahead of its first part, between two of them, ahead of its flush, or while others are written to. It is passed over from there on, and the others have it.
func TestAMemberThatFails(t *testing.T) {
	x := count(1, 160) // four parts
	for d := range 3 {
		for at := 1; at <= 12; at++ {
			b := bankOf(t, 3)
			lay(t, b, []int{0, 1, 2}, 0, 6, count(0, 5))
			before := b.Writes()
			b.FailAt(d, at)
			save(t, b, []int{0, 1, 2}, 1, 7, x, api.OK)
			// Up to the write at which it fails, or the first of its own behind that, it is written to; and not again.
			writes := 12
			if at <= 4*d {
				writes = 9
			} else if at <= 4*d+4 {
				writes = 8 + at - 4*d
			}
			if b.Writes() != before+writes || b.Loose() != 0 {
				t.Fatalf("%d fails at %d: %d writes, not %d; Loose %d", d, at, b.Writes()-before, writes, b.Loose())
			}
			for e := range 3 {
				if e == d {
					loadsNot(t, "the one that failed", b, []int{e}, api.ErrFailed)
				} else {
					loads(t, "another one", b, []int{e}, 1, 7, 7, x)
				}
			}
		}
	}
}

func TestAllMembersFail(t *testing.T) {
	for at := 1; at <= 8; at++ {
		b := bankOf(t, 2)
		b.FailAt(0, 1)
		b.FailAt(1, at)
		want := api.ErrFailed
		if at > 5 { // one of 0, four of 1
			want = api.OK
		}
		save(t, b, []int{0, 1}, 0, 7, count(1, 160), want)
	}
	b := bankOf(t, 2)
	b.Fail(0)
	b.Fail(1)
	save(t, b, []int{1, 0}, 0, 7, nil, api.ErrFailed)
	if b.Writes() != 2 {
		t.Fatal("Writes", b.Writes())
	}
}

// Who has all of a checkpoint, flushed, was not passed over, though it fails while others are.
func TestAMemberThatFailsBehindItsFlush(t *testing.T) {
	b := bankOf(t, 2)
	b.Fail(1)
	b.FailAt(0, 3)
	save(t, b, []int{0, 1}, 0, 7, count(0, 60), api.OK)
	if !b.Dead(0) || b.Writes() != 3 {
		t.Fatal("Dead", b.Dead(0), "Writes", b.Writes())
	}
	save(t, b, []int{0, 1}, 0, 7, nil, api.ErrFailed)
}

func TestSaveWithoutPower(t *testing.T) {
	b := bankOf(t, 3)
	b.Fail(0)
	b.Crash(0)
	save(t, b, []int{0, 9, 1, 2}, 0, 7, count(0, 5), api.ErrDown)
	save(t, b, []int{0, 9}, 0, 7, count(0, 5), api.ErrFailed)
	if b.Writes() != 0 {
		t.Fatal("Writes", b.Writes())
	}
	b.Start()
	save(t, b, []int{0, 9, 1, 2}, 0, 7, count(0, 5), api.OK)
	loads(t, "up", b, []int{0, 1, 2}, 0, 7, 7, count(0, 5))
}

// Power fails at each write of a checkpoint: those ahead of it have it, flushed, and those behind it nothing of it; of the one that is written to each sector was kept, or not.
func TestPowerFailsAtAnyWrite(t *testing.T) {
	x := count(0, 160)
	parts := plainSplit(7, x)
	for at := 1; at <= 12; at++ {
		for _, mask := range masks {
			b := bankOf(t, 3)
			lay(t, b, []int{0, 1, 2}, 1, 6, count(9, 300))
			want := b.Clone()
			b.Arm(at, mask)
			save(t, b, []int{2, 0, 1}, 1, 7, x, api.ErrDown)
			b.Start()
			for i := range at - 1 {
				if d := []int{2, 0, 1}[i/4]; i/4 < (at-1)/4 || mask>>(i%4)&1 == 1 {
					put(t, want, d, 1, i%4, parts[i%4])
				}
			}
			sameSectors(t, "behind a fall", b, want)
			if b.Loose() != 0 {
				t.Fatal("Loose", b.Loose())
			}
		}
	}
}

// A disk without such a sector is neither dead nor none: what it answers is told as ErrDown.
func TestSaveToADiskThatIsTooSmall(t *testing.T) {
	for area := range 2 {
		first := 50 + 32*area
		for _, sectors := range []int{1, 49, 50, first, first + 1, first + 3} {
			b := bankOf(t, 1)
			b.Add(sectors)
			b.Add(160)
			save(t, b, []int{0, 1, 2}, area, 7, count(0, 160), api.ErrDown)
			if want := 4 + max(0, sectors-first) + 1; b.Writes() != want {
				t.Fatalf("%d sectors: Writes %d, not %d", sectors, b.Writes(), want)
			}
			loads(t, "of 0", b, []int{0}, area, 7, 7, count(0, 160))
			loadsNone(t, "of 2", b, []int{2}, 0)
		}
		b := disk.NewBank()
		b.Add(first + 4)
		save(t, b, []int{0}, area, 7, count(0, 160), api.OK)
	}
}

func TestTheOtherAreaStays(t *testing.T) {
	b := bankOf(t, 2)
	var x [2][]byte
	for gen := 1; gen < 18; gen++ {
		area := gen % 2
		x[area] = count(gen, 1696-90*gen)
		save(t, b, []int{0, 1}, area, gen, x[area], api.OK)
		loads(t, "the newest", b, []int{1, 0}, area, gen, gen, x[area])
		c := b.Clone()
		for d := range 2 {
			put(t, c, d, area, 0, api.Sector{})
		}
		if gen == 1 {
			continue
		}
		f, e := load(t, c, []int{0, 1})
		if e != api.OK || f.Area != 1-area || f.Gen != gen-1 || !slices.Equal(f.Bytes, x[1-area]) {
			t.Fatalf("the one ahead of %d: %v, %v", gen, f, e)
		}
	}
}
