package metalog

import (
	"slices"
	"testing"

	"braidwork/api"
	"braidwork/disk"
)

func TestAJournalWithoutRecords(t *testing.T) {
	b := bankOf(t, 3)
	for _, gen := range slices.Concat(near, far) {
		scans(t, "noughts", b, []int{0, 1, 2}, gen, 0)
		scans(t, "noughts", b, []int{1}, gen, 0)
	}
}

func TestRecordsOfEachNumberOfBytes(t *testing.T) {
	for _, n := range []int{0, 1, 2, 52, 53, 54, 105, 106, 107, 530, 2066, 2067, 2068, 2119, 2120} {
		b := bankOf(t, 1)
		parts := max(1, (n+52)/53)
		layRecords(t, b, []int{0}, 7, count(3, n))
		scans(t, "one record", b, []int{0}, 7, parts, count(3, n))
		layRecords(t, b, []int{0}, 7, make([]byte, n), nil, count(9, 60), make([]byte, 53))
		scans(t, "four records", b, []int{0}, 7, parts+4, make([]byte, n), nil, count(9, 60), make([]byte, 53))
	}
}

func TestARecordsBytesByHand(t *testing.T) {
	b := bankOf(t, 1)
	put(t, b, 0, 0, api.Sector{0, 0, 0, 7, 0, 0, 0, 0, 0, 1, 2, 'a', 'b'})
	put(t, b, 0, 1, api.Sector{0, 0, 0, 7, 0, 0, 0, 1, 0, 1, 0})
	scans(t, "by hand", b, []int{0}, 7, 2, []byte("ab"), nil)
}

func TestAJournalThatIsJustFull(t *testing.T) {
	b := bankOf(t, 2)
	var all [][]byte
	for i := range 48 {
		all = append(all, count(i, i))
	}
	layRecords(t, b, []int{0, 1}, 7, all...)
	put(t, b, 0, 48, plain(7, 48, 0, 1, nil)) // no sector of the journal
	scans(t, "48 records", b, []int{0, 1}, 7, 48, all...)

	all = [][]byte{count(0, 2120), count(1, 8*53)}
	layRecords(t, b, []int{0}, 8, all...)
	put(t, b, 0, 48, plain(8, 2, 0, 1, nil))
	scans(t, "two records", b, []int{0, 1}, 8, 48, all...)
	scans(t, "two records", b, []int{1, 0}, 8, 48, all...)
}

// Behind a journal that is full nothing is read: there may be no sector.
func TestNothingBehindTheJournalIsRead(t *testing.T) {
	b := disk.NewBank()
	b.Add(50)
	all := [][]byte{count(0, 2120), count(1, 8*53)}
	layRecords(t, b, []int{0}, 7, all...)
	scans(t, "just full", b, []int{0}, 7, 48, all...)
	put(t, b, 0, 47, plain(7, 2, 0, 2, count(1, 53)))
	scans(t, "a part less", b, []int{0}, 7, 40, all[0])
	layRecords(t, b, []int{0}, 7, count(0, 2120), count(1, 7*53))
	scans(t, "one sector left", b, []int{0}, 7, 47, count(0, 2120), count(1, 7*53))
	put(t, b, 0, 47, plain(7, 2, 0, 2, count(1, 53)))
	scans(t, "no room for two", b, []int{0}, 7, 47, count(0, 2120), count(1, 7*53))
}

func TestARecordThatHasNoRoomInTheJournal(t *testing.T) {
	for _, ahead := range []int{9, 20, 46, 47} {
		b := bankOf(t, 2)
		var all [][]byte
		for i := range ahead {
			all = append(all, count(i, 5))
		}
		layRecords(t, b, []int{0, 1}, 7, all...)
		room := 48 - ahead
		for parts := max(1, room-1); parts <= min(40, room+3); parts++ {
			r := count(50, 53*parts)
			lay(t, b, 1, ahead, plainSplit(7, ahead, r)...)
			if parts <= room {
				scans(t, "with room", b, []int{0, 1}, 7, ahead+parts, append(slices.Clone(all), r)...)
			} else {
				scans(t, "without room", b, []int{0, 1}, 7, ahead, all...)
			}
		}
	}
}

func TestEachGeneration(t *testing.T) {
	for _, gen := range near {
		b := bankOf(t, 1)
		layRecords(t, b, []int{0}, gen, count(1, 5), count(2, 60))
		scans(t, "its own", b, []int{0}, gen, 3, count(1, 5), count(2, 60))
		for _, d := range []int{1, -1, 256, -256, 65536, 1 << 24, big, -big, 2 * big} {
			scans(t, "another", b, []int{0}, gen+d, 0)
		}
	}
	for _, gen := range far {
		b := bankOf(t, 1)
		layRecords(t, b, []int{0}, gen, count(1, 5)) // what of it has room in its bytes
		scans(t, "none", b, []int{0}, gen, 0)
	}
}

// five are records of two parts, four, one, two and one: ten sectors.
func five() [][]byte { return [][]byte{count(0, 60), count(1, 160), nil, count(2, 106), count(3, 9)} }

// notThere puts s, in the stead of the i-th sector of the five, on one member of two, and then on both: the num-th record, which begins at the sector at, and all behind it, are not there.
func notThere(t *testing.T, what string, i, num, at int, s api.Sector) {
	t.Helper()
	all := five()
	b := bankOf(t, 2)
	layRecords(t, b, []int{0, 1}, 7, all...)
	put(t, b, 0, i, s)
	scans(t, what+" on the first member", b, []int{0, 1}, 7, 10, all...)
	scans(t, what+" on the last member", b, []int{1, 0}, 7, 10, all...)
	put(t, b, 1, i, s)
	scans(t, what+" on all members", b, []int{0, 1}, 7, at, all[:num]...)
}

func TestWhatIsNotThere(t *testing.T) {
	at := 0
	for num, r := range five() {
		parts := plainSplit(7, num, r)
		n := len(parts)
		for part, right := range parts {
			held := right[11 : 11+right[10]]
			not := func(what string, s api.Sector) {
				t.Helper()
				notThere(t, what, at+part, num, at, s)
			}
			not("noughts", api.Sector{})
			not("a sector of all bits", api.Sector(slices.Repeat([]byte{0xff}, 64)))
			not("letters", api.Sector{'B', 'W'})
			not("the next generation", plain(8, num, part, n, held))
			not("the one ahead", plain(6, num, part, n, held))
			not("a generation far from it", plain(1<<24|7, num, part, n, held))
			not("the next number", plain(7, num+1, part, n, held))
			not("a number far from it", plain(7, 1<<24|num, part, n, held))
			not("both changed about", plain(num, 7, part, n, held))
			not("the part behind", plain(7, num, part+1, n+2, count(1, 53)))
			not("a part behind the last", plain(7, num, n, n, held))
			not("of no parts", plain(7, num, part, 0, held))
			not("of more than 40", plain(7, num, part, 41, count(1, 53)))
			if num > 0 {
				not("the number ahead", plain(7, num-1, part, n, held))
			}
			if part < n-1 {
				not("one byte less", plain(7, num, part, n, held[:52]))
			}
			if len(held) < 53 {
				bad := right
				bad[63] = 1
				not("a byte behind what it holds", bad)
			}
			if part > 0 {
				not("the part ahead", parts[part-1])
				not("a part 0", parts[0])
				not("of one part more", plain(7, num, part, n+1, count(1, 53)))
				not("of 40 parts", plain(7, num, part, 40, count(1, 53)))
				not("of one part", plain(7, num, 0, 1, held))
			}
			if part > 0 && part < n-1 {
				not("of one part less", plain(7, num, part, n-1, count(1, 53)))
			}
		}
		at += n
	}
}

// A first part that says more than there are: the others are none of its record.
func TestAFirstPartThatSaysMore(t *testing.T) {
	at := 0
	for num, r := range five() {
		n := len(plainSplit(7, num, r))
		for _, parts := range []int{n + 1, n + 2, 39, 40} {
			b := bankOf(t, 1)
			layRecords(t, b, []int{0}, 7, five()...)
			put(t, b, 0, at, plain(7, num, 0, parts, count(0, 53)))
			scans(t, "of more parts", b, []int{0}, 7, at, five()[:num]...)
		}
		at += n
	}
}

// A first part says how many sectors its record has: if it says fewer, the next record is looked for behind these.
func TestAFirstPartThatSaysFewer(t *testing.T) {
	b := bankOf(t, 1)
	layRecords(t, b, []int{0}, 7, count(0, 60), count(1, 5))
	put(t, b, 0, 0, plain(7, 0, 0, 1, count(4, 8)))
	scans(t, "a part behind it", b, []int{0}, 7, 1, count(4, 8))
	put(t, b, 0, 1, plain(7, 1, 0, 1, count(5, 8)))
	scans(t, "a record of one part behind it", b, []int{0}, 7, 2, count(4, 8), count(5, 8))
}

// Each sector that one of the members has will do, whichever it is.
func TestEachSectorOnOneMemberAlone(t *testing.T) {
	all := [][]byte{count(0, 60), nil, count(1, 107)}
	var sectors []api.Sector
	for i, r := range all {
		sectors = append(sectors, plainSplit(7, i, r)...)
	}
	junk := []api.Sector{{}, plain(6, 0, 0, 1, count(3, 9)), plain(7, 40, 0, 1, nil)}
	for ways := range 3 * 3 * 3 * 3 * 3 * 3 {
		b := bankOf(t, 3)
		for i, w := 0, ways; i < len(sectors); i, w = i+1, w/3 {
			for d := range 3 {
				s := junk[(i+d+ways)%3]
				if d == w%3 {
					s = sectors[i]
				}
				put(t, b, d, i, s)
			}
		}
		scans(t, "spread", b, []int{0, 1, 2}, 7, 6, all...)
		scans(t, "spread", b, []int{2, 0, 1}, 7, 6, all...)
	}
}

func TestASectorThatIsMissing(t *testing.T) {
	all := [][]byte{count(0, 60), nil, count(1, 107)}
	at := []int{0, 2, 3}
	of := []int{0, 0, 1, 2, 2, 2}
	for i := range of {
		b := bankOf(t, 3)
		layRecords(t, b, []int{0, 1, 2}, 7, all...)
		for d := range 3 {
			put(t, b, d, i, api.Sector{})
			for e := range 3 {
				if e <= d {
					scans(t, "on none of them", b, []int{e}, 7, at[of[i]], all[:of[i]]...)
				} else {
					scans(t, "on one of them", b, []int{d, e}, 7, 6, all...)
				}
			}
		}
		scans(t, "on none of all", b, []int{0, 1, 2}, 7, at[of[i]], all[:of[i]]...)
	}
}

// Two members have a record's sectors, and they hold other bytes: of each sector it is the first member in live that counts.
func TestTheFirstMemberThatHasIt(t *testing.T) {
	x, y := count(0, 130), count(100, 130)
	for ways := range 8 {
		b := bankOf(t, 3)
		layRecords(t, b, []int{0}, 7, x)
		layRecords(t, b, []int{2}, 7, y)
		want := slices.Clone(x)
		for i := range 3 {
			if ways>>i&1 == 1 {
				put(t, b, 0, i, plain(6, 0, i, 3, count(0, 53)))
				copy(want[53*i:min(53*i+53, 130)], y[53*i:])
			}
		}
		scans(t, "0 ahead of 2", b, []int{1, 0, 2}, 7, 3, want)
		scans(t, "2 ahead of 0", b, []int{2, 1, 0}, 7, 3, y)
	}
	// Last parts that are not equally long.
	b := bankOf(t, 2)
	layRecords(t, b, []int{0}, 7, count(0, 60))
	layRecords(t, b, []int{1}, 7, count(0, 70))
	scans(t, "the shorter one", b, []int{0, 1}, 7, 2, count(0, 60))
	scans(t, "the longer one", b, []int{1, 0}, 7, 2, count(0, 70))
}

// Of several first parts, too, it is the first member's that counts: it alone says how many parts there are.
func TestFirstPartsThatSayUnlikeNumbers(t *testing.T) {
	b := bankOf(t, 2)
	put(t, b, 0, 0, plain(7, 0, 0, 2, count(0, 53)))
	put(t, b, 1, 0, plain(7, 0, 0, 1, count(1, 9)))
	scans(t, "of two ahead of one", b, []int{0, 1}, 7, 0)
	scans(t, "of one ahead of two", b, []int{1, 0}, 7, 1, count(1, 9))
	put(t, b, 1, 1, plain(7, 0, 1, 2, count(2, 9)))
	scans(t, "whole", b, []int{0, 1}, 7, 2, append(count(0, 53), count(2, 9)...))
	scans(t, "of one ahead of two", b, []int{1, 0}, 7, 1, count(1, 9))
	// Also where there is no room for as many as it says.
	b = bankOf(t, 2)
	all := slices.Repeat([][]byte{count(0, 5)}, 47)
	layRecords(t, b, []int{0, 1}, 7, all...)
	put(t, b, 0, 47, plain(7, 47, 0, 2, count(0, 53)))
	put(t, b, 1, 47, plain(7, 47, 0, 1, nil))
	scans(t, "of two ahead of one", b, []int{0, 1}, 7, 47, all...)
	scans(t, "of one ahead of two", b, []int{1, 0}, 7, 48, append(all, nil)...)
}

// A record that is there behind one that is not does not matter.
func TestBehindTheFirstThatIsNotThere(t *testing.T) {
	all := [][]byte{count(0, 9), count(1, 60), count(2, 9), count(3, 9)}
	b := bankOf(t, 1)
	layRecords(t, b, []int{0}, 7, all...)
	scans(t, "all", b, []int{0}, 7, 5, all...)
	put(t, b, 0, 2, api.Sector{})
	scans(t, "the first alone", b, []int{0}, 7, 1, all[0])
	put(t, b, 0, 0, api.Sector{})
	scans(t, "none", b, []int{0}, 7, 0)
	// A record that begins one sector too late.
	put(t, b, 0, 1, plainSplit(7, 0, all[0])[0])
	scans(t, "none", b, []int{0}, 7, 0)
}

func TestOlderRecordsBehindNewerOnes(t *testing.T) {
	b := bankOf(t, 2)
	var old [][]byte
	for i := range 48 {
		old = append(old, count(i, 20))
	}
	layRecords(t, b, []int{0, 1}, 6, old...)
	layRecords(t, b, []int{0, 1}, 7, count(0, 60), count(1, 7))
	scans(t, "the newer ones", b, []int{0, 1}, 7, 3, count(0, 60), count(1, 7))
	scans(t, "the older ones", b, []int{0, 1}, 6, 0)
	// On one member the older ones are still there.
	layRecords(t, b, []int{1}, 6, old...)
	scans(t, "the newer ones", b, []int{1, 0}, 7, 3, count(0, 60), count(1, 7))
	scans(t, "the older ones", b, []int{0, 1}, 6, 48, old...)
}

func TestLiveMembersOfScan(t *testing.T) {
	b := bankOf(t, 4)
	layRecords(t, b, []int{1}, 7, count(0, 60), count(1, 5))
	for _, live := range [][]int{{1}, {0, 1, 2, 3}, {1, 1}, {0, 0, 1, 1, 0}, {3, 1}, {1, 2}} {
		scans(t, "with the one that has them", b, live, 7, 3, count(0, 60), count(1, 5))
	}
	for _, live := range [][]int{{0}, {2, 3}, {0, 2, 3}, {0, 0}} {
		scans(t, "without it", b, live, 7, 0)
	}
	for _, d := range noDisks(4) {
		scans(t, "and no disk", b, []int{d, 1}, 7, 3, count(0, 60), count(1, 5))
		scans(t, "and no disk", b, []int{1, d}, 7, 3, count(0, 60), count(1, 5))
		scans(t, "and no disk", b, []int{d, 0, d}, 7, 0)
		scansNot(t, "no disk", b, []int{d}, 7, api.ErrFailed)
		scansNot(t, "no disk", b, []int{d, d, -7}, 7, api.ErrFailed)
	}
	scansNot(t, "nil", b, nil, 7, api.ErrFailed)
	scansNot(t, "none", b, []int{}, 7, api.ErrFailed)
	scansNot(t, "none", b, []int{}, -1, api.ErrFailed)
}

func TestDeadMembersOfScan(t *testing.T) {
	b := bankOf(t, 3)
	layRecords(t, b, []int{0, 1}, 7, count(0, 60))
	b.Fail(0)
	scans(t, "a dead one first", b, []int{0, 1, 2}, 7, 2, count(0, 60))
	scans(t, "a dead one last", b, []int{2, 1, 0}, 7, 2, count(0, 60))
	scans(t, "one that has nothing", b, []int{0, 2}, 7, 0)
	scansNot(t, "a dead one alone", b, []int{0}, 7, api.ErrFailed)
	scansNot(t, "a dead one and no disk", b, []int{0, 9, 0}, 7, api.ErrFailed)
	scansNot(t, "likewise, of no generation", b, []int{0, 9, 0}, -1, api.ErrFailed)
	b.Fail(1)
	scans(t, "one that has nothing", b, []int{0, 1, 2}, 7, 0)
	b.Fail(2)
	scansNot(t, "all of them", b, []int{0, 1, 2}, 7, api.ErrFailed)
}

func TestScanWithoutPower(t *testing.T) {
	b := bankOf(t, 3)
	layRecords(t, b, []int{0, 1, 2}, 7, count(0, 60))
	b.Fail(0)
	b.Crash(0)
	scansNot(t, "down", b, []int{1, 2}, 7, api.ErrDown)
	scansNot(t, "down, behind a dead one", b, []int{0, 9, 2}, 7, api.ErrDown)
	scansNot(t, "down, ahead of a dead one", b, []int{2, 0}, 7, api.ErrDown)
	scansNot(t, "down, of no generation", b, []int{1}, -1, api.ErrDown)
	scansNot(t, "a dead one alone", b, []int{0, 9}, 7, api.ErrFailed)
	scansNot(t, "none", b, nil, 7, api.ErrFailed)
	b.Start()
	scans(t, "up", b, []int{0, 1, 2}, 7, 2, count(0, 60))
}

// A disk that is too small for a journal answers ErrRange where it is asked, and that is told.
func TestADiskThatIsTooSmallForAJournal(t *testing.T) {
	for sectors := 1; sectors < 50; sectors++ {
		b := bankOf(t, 1)
		b.Add(sectors)
		var all [][]byte
		for i := range 48 {
			all = append(all, count(i, 5))
		}
		layRecords(t, b, []int{0}, 7, all[:max(0, sectors-2)]...)
		scansNot(t, "one behind its end", b, []int{0, 1}, 7, api.ErrRange)
		scansNot(t, "one behind its end", b, []int{1, 0}, 7, api.ErrRange)
		if sectors > 2 {
			scansNot(t, "alone", b, []int{1}, 8, api.OK)
		}
		layRecords(t, b, []int{0}, 7, all...)
		scans(t, "full without it", b, []int{0}, 7, 48, all...)
	}
}

// What is newest of a sector is read, flushed or not; and what Scan tells is the caller's, whatever is written then.
func TestScanOfWhatIsLoose(t *testing.T) {
	b := bankOf(t, 1)
	s := plainSplit(7, 0, count(0, 9))[0]
	b.Write(api.Place{Disk: 0, At: 2}, s)
	scans(t, "loose", b, []int{0}, 7, 1, count(0, 9))
	l, _, _ := Scan(b, []int{0}, 7)
	b.Crash(0)
	b.Start()
	scans(t, "lost", b, []int{0}, 7, 0)
	if !sameRecords(l, [][]byte{count(0, 9)}) {
		t.Fatal("an answer changes with the bank")
	}
}
