package metalog

import (
	"math/rand"
	"slices"
	"testing"

	"braidwork/api"
	"braidwork/disk"
)

// plainLog is a log as the chapter tells it, word by word.
type plainLog struct {
	b       *disk.Bank
	live    []int
	gen     int
	records [][]byte
	used    int
	over    bool
}

func (l *plainLog) add(r []byte) api.Errno {
	if l.over {
		return api.ErrState
	}
	if len(r) > 2120 || l.gen < 0 || l.gen >= big {
		return api.ErrArg
	}
	parts := plainSplit(l.gen, len(l.records), r)
	if l.used+len(parts) > 48 {
		return api.ErrFull
	}
	passed := 0
places:
	for _, d := range l.live {
		for i := range len(parts) + 1 {
			var e api.Errno
			if i < len(parts) {
				e = l.b.Write(api.Place{Disk: d, At: 2 + l.used + i}, parts[i])
			} else {
				e = l.b.Flush(d)
			}
			switch e {
			case api.OK:
			case api.ErrDead, api.ErrNone:
				passed++
				continue places
			default:
				l.over = true
				return api.ErrDown
			}
		}
	}
	if passed == len(l.live) {
		l.over = true
		return api.ErrFailed
	}
	l.records = append(l.records, slices.Clone(r))
	l.used += len(parts)
	return api.OK
}

// plainPart is what a sector says that it is: generation, number, part, of how many, and what it holds; false, if it is no part.
func plainPart(s api.Sector) (gen, num, part, parts int, held []byte, ok bool) {
	gen = int(s[0])<<24 | int(s[1])<<16 | int(s[2])<<8 | int(s[3])
	num = int(s[4])<<24 | int(s[5])<<16 | int(s[6])<<8 | int(s[7])
	part, parts = int(s[8]), int(s[9])
	if s[10] > 53 || parts > 40 || part >= parts {
		return
	}
	held = s[11 : 11+s[10]]
	ok = plain(gen, num, part, parts, held) == s
	if part < parts-1 {
		ok = ok && len(held) == 53
	} else if parts > 1 {
		ok = ok && len(held) > 0
	}
	return
}

// plainScan is Scan of members that have all sectors of a journal, in a bank that is up.
func plainScan(b *disk.Bank, live []int, gen int) ([][]byte, int, api.Errno) {
	var alive []int
	for _, d := range live {
		if !b.Dead(d) {
			alive = append(alive, d)
		}
	}
	if len(alive) == 0 {
		return nil, 0, api.ErrFailed
	}
	look := func(num, at, part, of int) ([]byte, int) {
		for _, d := range alive {
			s, _ := b.Read(api.Place{Disk: d, At: 2 + at})
			if g, n, p, parts, held, ok := plainPart(s); ok && g == gen && n == num && p == part && (of == 0 || of == parts) {
				return held, parts
			}
		}
		return nil, 0
	}
	var all [][]byte
	used := 0
records:
	for used < 48 {
		r, parts := look(len(all), used, 0, 0)
		if parts == 0 || used+parts > 48 {
			break
		}
		for i := 1; i < parts; i++ {
			held, n := look(len(all), used+i, i, parts)
			if n == 0 {
				break records
			}
			r = slices.Concat(r, held)
		}
		all = append(all, r)
		used += parts
	}
	return all, used, api.OK
}

// asPlain tells that Scan tells what plainScan does, and answers it.
func asPlain(t *testing.T, b *disk.Bank, live []int, gen int) [][]byte {
	t.Helper()
	want, used, we := plainScan(b, live, gen)
	l, n, e := Scan(b, live, gen)
	if !sameRecords(l, want) || n != used || e != we {
		t.Fatalf("Scan(%v, %d): %v, %d, %v, not %v, %d, %v", live, gen, l, n, e, want, used, we)
	}
	return l
}

// toldBehind tells that Scan tells all records that were answered OK, and at most the one that was under way, whichever of the members in live are lost, as long as one is not.
func toldBehind(t *testing.T, b *disk.Bank, live []int, gen int, sure [][]byte, underWay []byte) {
	t.Helper()
	for lost := range 1 << len(live) {
		c := b.Clone()
		left := false
		for i, d := range live {
			if lost>>i&1 == 1 {
				c.Fail(d)
			}
		}
		for _, d := range live {
			left = left || !c.Dead(d)
		}
		if !left {
			scansNot(t, "all are lost", c, live, gen, api.ErrFailed)
			continue
		}
		l := asPlain(t, c, live, gen)
		if !sameRecords(l, sure) && !sameRecords(l, append(slices.Clone(sure), underWay)) {
			t.Fatalf("%v without %b: %v, not %v, and perhaps %v", live, lost, l, sure, underWay)
		}
	}
}

// rowOf is n records of many lengths.
func rowOf(r *rand.Rand, n int) [][]byte {
	var l [][]byte
	for i := range n {
		l = append(l, count(r.Intn(250), []int{0, 5, 53, 54, 107, 160, 161}[(i+r.Intn(3))%7]))
	}
	return l
}

// Power fails at each write of a row of records, whatever of what is loose is kept.
func TestPowerFailsAtAnyWrite(t *testing.T) {
	row := [][]byte{count(0, 60), nil, count(1, 107), count(2, 106)}
	for _, live := range [][]int{{0}, {0, 1}, {2, 0, 1}, {1, 0, 1}} {
		writes := len(live) * (2 + 1 + 3 + 2)
		for at := 1; at <= writes; at++ {
			for _, mask := range masks {
				b := bankOf(t, 3)
				layRecords(t, b, live, 6, slices.Repeat([][]byte{count(7, 20)}, 48)...)
				b.Arm(at, mask)
				l := New(b, live, 7)
				var sure [][]byte
				for _, r := range row {
					if e := l.Append(r); e != api.OK {
						is(t, "Append", e, api.ErrDown)
						break
					}
					sure = append(sure, r)
				}
				if b.Up() || len(sure) == len(row) {
					t.Fatalf("armed at %d of %d: power did not fail", at, writes)
				}
				has(t, l, len(sure), 48-[]int{0, 2, 3, 6}[len(sure)])
				scansNot(t, "down", b, live, 7, api.ErrDown)
				b.Start()
				add(t, l, nil, api.ErrState)
				toldBehind(t, b, live, 7, sure, row[len(sure)])
			}
		}
	}
}

// Power fails between two records: all of them are told.
func TestACrashBehindAppend(t *testing.T) {
	r := rand.New(rand.NewSource(9))
	for _, mask := range masks {
		b := bankOf(t, 3)
		l := New(b, []int{0, 2}, 7)
		var sure [][]byte
		for _, x := range rowOf(r, 12) {
			add(t, l, x, api.OK)
			sure = append(sure, x)
			b.Write(api.Place{Disk: 0, At: 130}, api.Sector{1})
			b.Crash(mask)
			b.Start()
			toldBehind(t, b, []int{0, 2}, 7, sure, nil)
			used := 48 - l.Room()
			scans(t, "behind a crash", b, []int{0, 2}, 7, used, sure...)
		}
	}
}

// What a crash left of a record under way, by hand: each of its sectors was kept, or not, on the member that was written to.
func TestEachSectorOfTheOneUnderWay(t *testing.T) {
	sure, underWay := count(0, 60), count(1, 200)
	for kept := range uint64(1 << 4) {
		b := bankOf(t, 2)
		used := layRecords(t, b, []int{0, 1}, 7, sure)
		for i, s := range plainSplit(7, 1, underWay) {
			b.Write(api.Place{Disk: 0, At: 2 + used + i}, s)
		}
		b.Crash(kept)
		b.Start()
		if kept == 15 {
			scans(t, "all kept", b, []int{1, 0}, 7, 6, sure, underWay)
		} else {
			scans(t, "not all kept", b, []int{1, 0}, 7, 2, sure)
		}
	}
}

// One member is lost at one write, and power fails at another one, ahead of it or behind it.
func TestAMemberIsLostAndPowerFails(t *testing.T) {
	row := [][]byte{count(0, 60), nil, count(1, 107), count(2, 106)}
	live := []int{1, 0, 2}
	for lost := range 3 {
		for fails := 1; fails <= 24; fails++ {
			for at := 1; at <= 24; at++ {
				b := bankOf(t, 3)
				b.FailAt(lost, fails)
				b.Arm(at, masks[(at+fails)%len(masks)])
				l := New(b, live, 7)
				var sure [][]byte
				for _, r := range row {
					if l.Append(r) != api.OK {
						break
					}
					sure = append(sure, r)
				}
				b.Start()
				underWay := []byte(nil)
				if len(sure) < len(row) {
					underWay = row[len(sure)]
				}
				toldOf(t, b, live, lost, sure, underWay)
			}
		}
	}
}

// toldOf tells that Scan tells all records that were answered OK, and at most the one that was under way, if the member is lost, and another one may be.
func toldOf(t *testing.T, b *disk.Bank, live []int, lost int, sure [][]byte, underWay []byte) {
	t.Helper()
	for another := range 3 {
		c := b.Clone()
		c.Fail(lost)
		c.Fail(another)
		l := asPlain(t, c, live, 7)
		if !sameRecords(l, sure) && !sameRecords(l, append(slices.Clone(sure), underWay)) {
			t.Fatalf("without %d and %d: %v, not %v, and perhaps %v", lost, another, l, sure, underWay)
		}
	}
}

// A log and a plain one are done the same to, on banks that are the same, in a row that is the same in each run.
func TestManyAppends(t *testing.T) {
	for seed := range int64(300) {
		r := rand.New(rand.NewSource(seed))
		b := bankOf(t, 4)
		var live []int
		for range r.Intn(5) {
			live = append(live, r.Intn(5)) // 4 is none
		}
		c := b.Clone()
		l, p := New(b, live, 7), &plainLog{b: c, live: live, gen: 7}
		for range 30 {
			x := count(r.Intn(200), r.Intn(220))
			if r.Intn(12) == 0 {
				x = make([]byte, 2100+r.Intn(40))
			}
			if r.Intn(10) == 0 {
				d, n := r.Intn(4), r.Intn(20)
				b.FailAt(d, n)
				c.FailAt(d, n)
			}
			if r.Intn(25) == 0 {
				n, mask := r.Intn(20), r.Uint64()
				b.Arm(n, mask)
				c.Arm(n, mask)
			}
			add(t, l, x, p.add(x))
			has(t, l, len(p.records), 48-p.used)
			sameBanks(t, b, c)
		}
		b.Start()
		asPlain(t, b, live, 7)
		asPlain(t, b, []int{3, 1, 4, 0, 2}, 7)
	}
}

// Journals of sectors that are right, nearly right, and wrong, on some members.
func TestManyJournals(t *testing.T) {
	told := map[int]int{}
	for seed := range int64(3000) {
		r := rand.New(rand.NewSource(seed))
		b := bankOf(t, 3)
		at := 0
		for num, x := range rowOf(r, 14) {
			for i, s := range plainSplit(7, num, x) {
				for d := range 3 {
					if at+i < 60 && r.Intn(4) > 0 {
						put(t, b, d, at+i, s)
					}
				}
			}
			at += max(1, (len(x)+52)/53)
		}
		for range r.Intn(6) {
			gen, num, parts := 6+r.Intn(3), r.Intn(8), 1+r.Intn(4)
			part := r.Intn(parts)
			s := plain(gen, num, part, parts, count(r.Intn(250), 53))
			if r.Intn(9) == 0 {
				s[r.Intn(64)] ^= byte(1 << r.Intn(8))
			}
			put(t, b, r.Intn(3), r.Intn(20), s)
		}
		if r.Intn(5) == 0 {
			b.Fail(r.Intn(3))
		}
		for _, live := range [][]int{{0, 1, 2}, {2, 1}, {1, 7, 0, 1}, {0}} {
			for gen := 6; gen < 9; gen++ {
				told[len(asPlain(t, b, live, gen))]++
			}
		}
	}
	for n := range 9 {
		if told[n] == 0 {
			t.Errorf("no journal has just %d records", n)
		}
	}
}

// The same calls have the same answers.
func TestTheSameCallsHaveTheSameAnswers(t *testing.T) {
	run := func() *disk.Bank {
		b := bankOf(t, 3)
		l := New(b, []int{0, 1, 2}, 7)
		b.FailAt(1, 9)
		b.Arm(14, 0b10)
		for _, r := range rowOf(rand.New(rand.NewSource(3)), 9) {
			l.Append(r)
		}
		return b
	}
	first := run()
	for range 20 {
		sameBanks(t, run(), first)
	}
}
