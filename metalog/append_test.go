package metalog

import (
	"slices"
	"testing"

	"braidwork/api"
	"braidwork/disk"
)

func TestTheExample(t *testing.T) {
	b := bankOf(t, 2)
	l := New(b, []int{0, 1}, 7)
	has(t, l, 0, 48)
	add(t, l, []byte("ab"), api.OK)
	has(t, l, 1, 47)
	scans(t, "7", b, []int{0, 1}, 7, 1, []byte("ab"))
	scans(t, "8", b, []int{0, 1}, 8, 0)
}

func TestNewWritesNothing(t *testing.T) {
	b := bankOf(t, 2)
	layRecords(t, b, []int{0, 1}, 7, count(0, 60))
	was := b.Clone()
	for _, gen := range slices.Concat(near, far) {
		has(t, New(b, []int{0, 1, 9}, gen), 0, 48)
		has(t, New(b, nil, gen), 0, 48)
	}
	sameBanks(t, b, was)
}

// Each live member has each part at its place, all of it flushed; nothing else is written, or flushed.
func TestWhatAppendWrites(t *testing.T) {
	for _, gen := range near {
		b := bankOf(t, 4)
		b.Write(api.Place{Disk: 3, At: 100}, api.Sector{9})
		want := b.Clone()
		l := New(b, []int{2, 0}, gen)
		at := 0
		for i, n := range []int{0, 1, 52, 53, 54, 106, 107, 530, 0, 300} {
			r := count(i, n)
			parts := plainSplit(gen, i, r)
			add(t, l, r, api.OK)
			for _, d := range []int{2, 0} {
				for k, s := range parts {
					want.Write(api.Place{Disk: d, At: 2 + at + k}, s)
				}
				want.Flush(d)
			}
			at += len(parts)
			sameBanks(t, b, want)
			has(t, l, i+1, 48-at)
		}
	}
}

// What was loose on a live member ahead of Append is flushed with it, for a flush is the whole disk's.
func TestAppendFlushesTheMember(t *testing.T) {
	b := bankOf(t, 2)
	b.Write(api.Place{Disk: 0, At: 120}, api.Sector{1})
	b.Write(api.Place{Disk: 1, At: 120}, api.Sector{1})
	add(t, New(b, []int{1}, 7), nil, api.OK)
	if b.Loose() != 1 {
		t.Fatal("Loose", b.Loose())
	}
}

func TestRecordsWithoutParts(t *testing.T) {
	b := bankOf(t, 1)
	l := New(b, []int{0}, 7)
	for _, n := range []int{2121, 2122, 2173, 4240, 100000} {
		add(t, l, make([]byte, n), api.ErrArg)
	}
	add(t, l, count(0, 2120), api.OK)
	add(t, l, count(0, 2121), api.ErrArg) // no record, whatever the room
	add(t, l, count(1, 8*53), api.OK)
	add(t, l, count(0, 2121), api.ErrArg)
	add(t, l, nil, api.ErrFull)
	scans(t, "both", b, []int{0}, 7, 48, count(0, 2120), count(1, 8*53))
	if b.Writes() != 48 {
		t.Fatal("Writes", b.Writes())
	}
}

func TestAGenerationThatIsNone(t *testing.T) {
	for _, gen := range far {
		b := bankOf(t, 1)
		was := b.Clone()
		l := New(b, []int{0}, gen)
		for _, n := range []int{0, 1, 60, 2121, 0} {
			add(t, l, count(0, n), api.ErrArg)
		}
		l = New(b, nil, gen)
		add(t, l, nil, api.ErrArg)
		add(t, l, nil, api.ErrArg)
		sameBanks(t, b, was)
	}
}

func TestRoom(t *testing.T) {
	for room := 1; room <= 40; room++ {
		b := bankOf(t, 2)
		l := New(b, []int{0, 1}, 7)
		var all [][]byte
		put := func(r []byte) {
			add(t, l, r, api.OK)
			all = append(all, r)
		}
		for l.Room() > room {
			put(count(l.Room(), 53*min(5, l.Room()-room)))
		}
		has(t, l, len(all), room)
		was := b.Clone()
		if room < 40 {
			add(t, l, count(1, 53*room+1), api.ErrFull) // one more
		}
		for _, n := range []int{53*room + 54, 2120} {
			if n <= 2120 && n > 53*room {
				add(t, l, count(1, n), api.ErrFull)
			}
		}
		sameBanks(t, b, was)
		scans(t, "ahead of it", b, []int{1, 0}, 7, 48-room, all...)
		if room%2 == 0 {
			put(count(2, 53*room)) // just as many
		} else {
			if room > 1 {
				put(count(3, 53*(room-1))) // one less
			}
			has(t, l, len(all), 1)
			add(t, l, count(3, 54), api.ErrFull)
			put(nil)
		}
		has(t, l, len(all), 0)
		add(t, l, nil, api.ErrFull)
		add(t, l, count(1, 5), api.ErrFull)
		scans(t, "just full", b, []int{0, 1}, 7, 48, all...)
	}
}

func Test48RecordsOfOnePart(t *testing.T) {
	b := bankOf(t, 1)
	l := New(b, []int{0}, big-1)
	var all [][]byte
	for i := range 48 {
		all = append(all, count(i, i))
		add(t, l, all[i], api.OK)
		has(t, l, i+1, 47-i)
	}
	add(t, l, nil, api.ErrFull)
	scans(t, "all", b, []int{0}, big-1, 48, all...)
}

func TestNoLiveMembers(t *testing.T) {
	b := bankOf(t, 2)
	was := b.Clone()
	for _, live := range [][]int{nil, {}} {
		l := New(b, live, 7)
		add(t, l, make([]byte, 2121), api.ErrArg)
		add(t, l, count(0, 5), api.ErrFailed)
		add(t, l, count(0, 5), api.ErrState)
		add(t, l, make([]byte, 2121), api.ErrState)
	}
	sameBanks(t, b, was)
}

// A place of live without a disk is asked once in each call, and passed over.
func TestADiskThatThereIsNot(t *testing.T) {
	for _, d := range noDisks(2) {
		b := bankOf(t, 2)
		l := New(b, []int{d, 1, d}, 7)
		add(t, l, count(0, 160), api.OK)
		if b.Writes() != 1+4+1 {
			t.Fatal("Writes", b.Writes())
		}
		add(t, l, count(1, 5), api.OK)
		scans(t, "of 1", b, []int{1}, 7, 5, count(0, 160), count(1, 5))
		scans(t, "of 0", b, []int{0}, 7, 0)
		l = New(b, []int{d, d}, 7)
		add(t, l, count(0, 160), api.ErrFailed)
		add(t, l, count(0, 160), api.ErrState)
		if b.Writes() != 6+3+2 {
			t.Fatal("Writes", b.Writes())
		}
	}
}

// It is passed over in this call alone: when there is such a disk, it is written to.
func TestADiskThatThereIsLater(t *testing.T) {
	b := bankOf(t, 2)
	l := New(b, []int{0, 2}, 7)
	add(t, l, count(0, 60), api.OK)
	b.Add(160)
	add(t, l, count(1, 60), api.OK)
	if s, _ := b.Read(api.Place{Disk: 2, At: 2}); s != (api.Sector{}) {
		t.Fatalf("%x", s)
	}
	if s, _ := b.Read(api.Place{Disk: 2, At: 5}); s != plainSplit(7, 1, count(1, 60))[1] {
		t.Fatalf("%x", s)
	}
	scans(t, "both", b, []int{2, 0}, 7, 4, count(0, 60), count(1, 60))
}

func TestAMemberThatStandsThereTwice(t *testing.T) {
	b := bankOf(t, 2)
	l := New(b, []int{0, 1, 0}, 7)
	add(t, l, count(0, 60), api.OK)
	if b.Writes() != 6 || b.Loose() != 0 {
		t.Fatal("Writes", b.Writes(), "Loose", b.Loose())
	}
	scans(t, "of 0", b, []int{0}, 7, 2, count(0, 60))
	// It fails at its second place: it was not passed over at the first one.
	b = bankOf(t, 1)
	l = New(b, []int{0, 0}, 7)
	b.FailAt(0, 3)
	add(t, l, count(0, 60), api.OK)
	if b.Writes() != 3 {
		t.Fatal("Writes", b.Writes())
	}
	// Dead, it is asked once at each of its places.
	add(t, l, count(0, 60), api.ErrFailed)
	if b.Writes() != 5 {
		t.Fatal("Writes", b.Writes())
	}
	add(t, l, count(0, 60), api.ErrState)
}

// A member fails at each of the writes of a record: it is passed over from there on, and the others have it.
func TestAMemberThatFails(t *testing.T) {
	r := count(1, 160) // four parts
	for d := range 3 {
		for at := 1; at <= 12; at++ {
			b := bankOf(t, 3)
			l := New(b, []int{0, 1, 2}, 7)
			add(t, l, count(0, 5), api.OK)
			b.FailAt(d, at)
			add(t, l, r, api.OK)
			// Up to the write at which it fails, or the first of its own behind that, it is written to; and not again.
			writes := 12
			if at <= 4*d {
				writes = 9
			} else if at <= 4*d+4 {
				writes = 8 + at - 4*d
			}
			if b.Writes() != 3+writes || b.Loose() != 0 {
				t.Fatalf("%d fails at %d: Writes %d, not %d; Loose %d", d, at, b.Writes(), 3+writes, b.Loose())
			}
			for e := range 3 {
				if e == d {
					scansNot(t, "the one that failed", b, []int{e}, 7, api.ErrFailed)
				} else {
					scans(t, "another one", b, []int{e}, 7, 5, count(0, 5), r)
				}
			}
			before := b.Writes()
			add(t, l, r, api.OK)
			if b.Writes() != before+9 {
				t.Fatalf("%d writes", b.Writes()-before)
			}
		}
	}
}

func TestAllMembersFail(t *testing.T) {
	for at := 1; at <= 8; at++ {
		b := bankOf(t, 2)
		l := New(b, []int{0, 1}, 7)
		add(t, l, count(0, 5), api.OK)
		b.FailAt(0, 1)
		b.FailAt(1, at)
		want := api.ErrFailed
		if at > 5 { // one of 0, four of 1
			want = api.OK
		}
		add(t, l, count(1, 160), want)
		b.Fail(1)
		if want == api.OK {
			add(t, l, nil, api.ErrFailed)
		}
		add(t, l, nil, api.ErrState)
		add(t, l, make([]byte, 2121), api.ErrState)
	}
	b := bankOf(t, 2)
	b.Fail(0)
	b.Fail(1)
	l := New(b, []int{1, 0}, 7)
	add(t, l, make([]byte, 2121), api.ErrArg)
	add(t, l, nil, api.ErrFailed)
	add(t, l, nil, api.ErrState)
	if b.Writes() != 2 {
		t.Fatal("Writes", b.Writes())
	}
	has(t, l, 0, 48)
}

// Who has all of a record, flushed, was not passed over, though it fails while others are.
func TestAMemberThatFailsBehindItsFlush(t *testing.T) {
	b := bankOf(t, 2)
	l := New(b, []int{0, 1}, 7)
	b.Fail(1)
	b.FailAt(0, 3)
	add(t, l, count(0, 60), api.OK)
	if !b.Dead(0) || b.Writes() != 3 {
		t.Fatal("Dead", b.Dead(0), "Writes", b.Writes())
	}
	add(t, l, nil, api.ErrFailed)
}

func TestAppendWithoutPower(t *testing.T) {
	b := bankOf(t, 3)
	b.Fail(0)
	l := New(b, []int{0, 9, 1, 2}, 7)
	dead := New(b, []int{0, 9}, 7)
	other := New(b, []int{1}, 8)
	add(t, l, count(0, 5), api.OK)
	b.Crash(0)
	writes := b.Writes()
	add(t, l, make([]byte, 2121), api.ErrArg)
	add(t, l, count(0, 5), api.ErrDown)
	add(t, l, count(0, 5), api.ErrState)
	add(t, dead, count(0, 5), api.ErrFailed)
	if b.Writes() != writes {
		t.Fatal("Writes", b.Writes())
	}
	b.Start()
	add(t, l, count(0, 5), api.ErrState)
	add(t, l, make([]byte, 2121), api.ErrState)
	add(t, l, make([]byte, 2120), api.ErrState)
	add(t, dead, count(0, 5), api.ErrState)
	add(t, other, count(0, 5), api.OK)
	if b.Writes() != writes+1 {
		t.Fatal("Writes", b.Writes())
	}
}

// ErrFull and ErrArg stand ahead of what the bank answers, and end nothing.
func TestErrorsAheadOfTheBanks(t *testing.T) {
	b := bankOf(t, 1)
	l := New(b, []int{0}, 7)
	add(t, l, count(0, 2120), api.OK)
	b.Crash(0)
	add(t, l, count(0, 8*53+1), api.ErrFull)
	add(t, l, count(0, 2121), api.ErrArg)
	b.Start()
	add(t, l, count(0, 8*53+1), api.ErrFull)
	add(t, l, count(1, 8*53), api.OK)
	b.Fail(0)
	add(t, l, nil, api.ErrFull)
	add(t, l, nil, api.ErrFull)
}

// A disk without such a sector is neither dead nor none: what it answers is told as ErrDown.
func TestAppendToADiskThatIsTooSmall(t *testing.T) {
	for sectors := 1; sectors < 6; sectors++ {
		b := disk.NewBank()
		b.Add(160)
		b.Add(sectors)
		b.Add(160)
		l := New(b, []int{0, 1, 2}, 7)
		add(t, l, count(0, 160), api.ErrDown)
		add(t, l, nil, api.ErrState)
		if want := 4 + max(0, sectors-2) + 1; b.Writes() != want {
			t.Fatalf("%d sectors: Writes %d, not %d", sectors, b.Writes(), want)
		}
		scans(t, "of 0", b, []int{0}, 7, 4, count(0, 160))
		scans(t, "of 2", b, []int{2}, 7, 0)
	}
}

func TestLiveIsNotKept(t *testing.T) {
	b := bankOf(t, 3)
	live := []int{0, 1}
	l := New(b, live, 7)
	live[0], live[1] = 2, 2
	add(t, l, count(0, 5), api.OK)
	scans(t, "of 0", b, []int{0}, 7, 1, count(0, 5))
	scans(t, "of 1", b, []int{1}, 7, 1, count(0, 5))
	scans(t, "of 2", b, []int{2}, 7, 0)
	if live[0] != 2 || live[1] != 2 {
		t.Fatal(live)
	}
}

func TestLogsHaveNothingToDoWithEachOther(t *testing.T) {
	b, c := bankOf(t, 2), bankOf(t, 2)
	x, y, z := New(b, []int{0}, 7), New(b, []int{1}, 9), New(c, []int{0, 1}, 7)
	add(t, x, count(0, 60), api.OK)
	add(t, y, count(1, 5), api.OK)
	add(t, x, count(2, 5), api.OK)
	has(t, z, 0, 48)
	add(t, z, count(3, 5), api.OK)
	b.Crash(0)
	add(t, x, nil, api.ErrDown)
	add(t, z, count(4, 5), api.OK)
	b.Start()
	add(t, y, count(5, 5), api.OK)
	add(t, x, nil, api.ErrState)
	scans(t, "x", b, []int{0, 1}, 7, 3, count(0, 60), count(2, 5))
	scans(t, "y", b, []int{0, 1}, 9, 2, count(1, 5), count(5, 5))
	scans(t, "y", b, []int{0}, 9, 0)
	scans(t, "z", c, []int{1}, 7, 2, count(3, 5), count(4, 5))
}

// A new log of a newer generation writes over the older one's records, from the first sector on.
func TestANewLogBeginsAnew(t *testing.T) {
	b := bankOf(t, 2)
	old := New(b, []int{0, 1}, 6)
	for i := range 48 {
		add(t, old, count(i, 20), api.OK)
	}
	l := New(b, []int{0, 1}, 7)
	scans(t, "nothing yet", b, []int{0, 1}, 7, 0)
	var all [][]byte
	for i := range 20 {
		all = append(all, count(i, 54))
		add(t, l, all[i], api.OK)
		scans(t, "the new ones", b, []int{0, 1}, 7, 2*i+2, all...)
		scans(t, "the old ones", b, []int{0, 1}, 6, 0)
	}
}
