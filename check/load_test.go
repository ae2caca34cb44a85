package check

import (
	"slices"
	"testing"

	"braidwork/api"
	"braidwork/disk"
)

func TestNoCheckpoint(t *testing.T) {
	b := bankOf(t, 3)
	loadsNone(t, "noughts", b, []int{0, 1, 2}, 0)
	loadsNone(t, "noughts", b, []int{1}, 0)
}

func TestCheckpointsOfEachNumberOfBytes(t *testing.T) {
	for _, n := range []int{0, 1, 2, 52, 53, 54, 105, 106, 107, 530, 1643, 1644, 1695, 1696} {
		for area := range 2 {
			b := bankOf(t, 1)
			lay(t, b, []int{0}, area, 7, count(3, n))
			loads(t, "counted", b, []int{0}, area, 7, 7, count(3, n))
			lay(t, b, []int{0}, area, 8, make([]byte, n))
			loads(t, "noughts", b, []int{0}, area, 8, 8, make([]byte, n))
		}
	}
}

func TestCheckpointsByHand(t *testing.T) {
	b := bankOf(t, 1)
	is(t, "Write", b.Write(api.Place{At: 82}, api.Sector{0, 0, 1, 7, 0, 0, 0, 0, 0, 1, 2, 'a', 'b'}), api.OK)
	loads(t, "of 263", b, []int{0}, 1, 263, 263, []byte("ab"))
	is(t, "Write", b.Write(api.Place{At: 50}, api.Sector{0, 0, 1, 8, 0, 0, 0, 0, 0, 1, 0}), api.OK)
	loads(t, "of 264", b, []int{0}, 0, 264, 264, nil)
}

func TestEachGeneration(t *testing.T) {
	for _, gen := range near {
		for area := range 2 {
			b := bankOf(t, 2)
			lay(t, b, []int{1}, area, gen, count(1, 160))
			loads(t, "alone", b, []int{0, 1}, area, gen, gen, count(1, 160))
		}
	}
}

// A checkpoint in each area, of each two generations: the newer one is told, and of one generation the first.
func TestACheckpointInEachArea(t *testing.T) {
	for _, x := range near {
		for _, y := range near {
			b := bankOf(t, 2)
			lay(t, b, []int{0, 1}, 0, x, count(1, 60))
			lay(t, b, []int{0, 1}, 1, y, count(2, 107))
			if x >= y {
				loads(t, "the first", b, []int{0, 1}, 0, x, x, count(1, 60))
			} else {
				loads(t, "the second", b, []int{0, 1}, 1, y, y, count(2, 107))
			}
		}
	}
}

// Where the areas are, and not which member has them, tells which is the first.
func TestTheAreasOnUnlikeMembers(t *testing.T) {
	b := bankOf(t, 3)
	lay(t, b, []int{0}, 1, 7, count(1, 60))
	lay(t, b, []int{2}, 0, 7, count(2, 60))
	for _, live := range [][]int{{0, 1, 2}, {2, 1, 0}} {
		loads(t, "of one generation", b, live, 0, 7, 7, count(2, 60))
	}
	lay(t, b, []int{0}, 1, 8, count(3, 60))
	for _, live := range [][]int{{0, 1, 2}, {2, 1, 0}} {
		loads(t, "of two generations", b, live, 1, 8, 8, count(3, 60))
	}
	loads(t, "the older one alone", b, []int{1, 2}, 0, 7, 7, count(2, 60))
}

// notThere puts s, in the stead of the i-th sector of a checkpoint of the generation 7, on one member of two, and then on both: it is there, as long as one of them has that sector; then the older one of the other area is told.
func notThere(t *testing.T, what string, area int, x []byte, i int, s api.Sector, one, both int) {
	t.Helper()
	b := bankOf(t, 2)
	lay(t, b, []int{0, 1}, area, 7, x)
	put(t, b, 0, area, i, s)
	loads(t, what+" on the first member", b, []int{0, 1}, area, 7, one, x)
	loads(t, what+" on the last member", b, []int{1, 0}, area, 7, one, x)
	put(t, b, 1, area, i, s)
	loadsNone(t, what+" on all members", b, []int{0, 1}, both)
	lay(t, b, []int{1}, 1-area, 2, count(5, 60))
	loads(t, what+", and an older one", b, []int{0, 1}, 1-area, 2, max(2, both), count(5, 60))
}

func TestWhatIsNotThere(t *testing.T) {
	for k, size := range []int{0, 9, 60, 160, 1696} {
		x := count(k, size)
		parts := plainSplit(7, x)
		n := len(parts)
		for part, right := range parts {
			held := right[11 : 11+right[10]]
			// gen is what s tells of a generation; -1: nothing.
			not := func(what string, gen int, s api.Sector) {
				t.Helper()
				both := max(gen, 0)
				if n > 1 { // the other parts are seen
					both = max(gen, 7)
				}
				notThere(t, what, (k+part)%2, x, part, s, max(gen, 7), both)
			}
			not("noughts", -1, api.Sector{})
			not("a sector of all bits", -1, api.Sector(slices.Repeat([]byte{0xff}, 64)))
			not("letters", -1, api.Sector{'B', 'W'})
			not("the next number", -1, plain(7, 1, part, n, held))
			not("a number far from it", -1, plain(7, 1<<24, part, n, held))
			not("generation and number changed about", -1, plain(0, 7, part, n, held))
			not("a number, of the next generation", -1, plain(8, 1, part, n, held))
			not("a part behind the last", -1, plain(7, 0, n, n, held))
			not("of no parts", -1, plain(7, 0, part, 0, held))
			not("of more than 40", -1, plain(7, 0, part, 41, count(1, 53)))
			not("the part behind", 7, plain(7, 0, part+1, n+2, count(1, 53)))
			not("of 40 parts", 7, plain(7, 0, part, 40, count(1, 53)))
			not("of 33 parts", 7, plain(7, 0, part, 33, count(1, 53)))
			if part < n-1 {
				not("one byte less", -1, plain(7, 0, part, n, held[:52]))
			}
			if len(held) < 53 {
				bad := right
				bad[63] = 1
				not("a byte behind what it holds", -1, bad)
			}
			if n > 1 || part > 0 {
				not("the next generation", 8, plain(8, 0, part, n, held))
				not("the one ahead", 6, plain(6, 0, part, n, held))
				not("a generation far from it", 1<<24|7, plain(1<<24|7, 0, part, n, held))
			}
			if part > 0 {
				not("the part ahead", 7, parts[part-1])
				not("a part 0", 7, parts[0])
				not("of one part more", 7, plain(7, 0, part, n+1, count(1, 53)))
				not("of one part", 7, plain(7, 0, 0, 1, held))
			}
			if part > 0 && part < n-1 {
				not("of one part less", 7, plain(7, 0, part, n-1, count(1, 53)))
			}
		}
	}
}

// A first part that says another number of parts than there are: the others are none of its checkpoint.
func TestAFirstPartThatSaysAnotherNumber(t *testing.T) {
	for _, size := range []int{0, 60, 160, 1600} {
		x := count(0, size)
		n := plainParts(size)
		for parts := 2; parts <= 40; parts++ {
			b := bankOf(t, 1)
			lay(t, b, []int{0}, 1, 7, x)
			put(t, b, 0, 1, 0, plain(7, 0, 0, parts, count(0, 53)))
			if parts == n {
				loads(t, "as many", b, []int{0}, 1, 7, 7, x)
			} else {
				loadsNone(t, "not as many", b, []int{0}, 7)
			}
		}
		// Of one part it is whole, whatever is behind it.
		b := bankOf(t, 1)
		lay(t, b, []int{0}, 1, 7, x)
		put(t, b, 0, 1, 0, plain(7, 0, 0, 1, count(4, 8)))
		loads(t, "of one", b, []int{0}, 1, 7, 7, count(4, 8))
	}
}

// A checkpoint of 33 parts has no room in an area, though all its sectors are there, one behind the other.
func TestMoreThan32Parts(t *testing.T) {
	for _, size := range []int{1697, 1749, 1750, 2120} {
		for area := range 2 {
			b := bankOf(t, 1)
			lay(t, b, []int{0}, area, 7, count(0, size))
			loadsNone(t, "too many", b, []int{0}, 7)
		}
		// One that has room is told all the same, behind it on another member, or in the other area.
		b := bankOf(t, 2)
		lay(t, b, []int{0}, 0, 7, count(0, size))
		lay(t, b, []int{1}, 0, 7, count(1, 60))
		loads(t, "on another member", b, []int{0, 1}, 0, 7, 7, count(1, 60))
		lay(t, b, []int{1}, 0, 6, count(1, 60))
		loads(t, "on another member, and older", b, []int{0, 1}, 0, 6, 7, count(1, 60))
		lay(t, b, []int{0, 1}, 0, 7, count(0, size))
		lay(t, b, []int{1}, 1, 4, count(1, 60))
		loads(t, "in the other area", b, []int{0, 1}, 1, 4, 7, count(1, 60))
	}
}

// Each sector that one of the members has will do, whichever it is.
func TestEachSectorOnOneMemberAlone(t *testing.T) {
	x := count(0, 53*5+7)
	junk := []api.Sector{{}, plain(6, 0, 0, 2, count(3, 53)), plain(7, 40, 0, 1, nil)}
	for ways := range 3 * 3 * 3 * 3 * 3 * 3 {
		b := bankOf(t, 3)
		w := ways
		for i, s := range plainSplit(7, x) {
			for d := range 3 {
				if d == w%3 {
					put(t, b, d, 1, i, s)
				} else {
					put(t, b, d, 1, i, junk[(i+d+ways)%3])
				}
			}
			w /= 3
		}
		loads(t, "spread", b, []int{0, 1, 2}, 1, 7, 7, x)
		loads(t, "spread", b, []int{2, 0, 1}, 1, 7, 7, x)
	}
}

func TestASectorThatIsMissing(t *testing.T) {
	for _, n := range []int{2, 3, 32} {
		x := count(0, 53*n-4)
		for i := range n {
			b := bankOf(t, 3)
			lay(t, b, []int{0, 1, 2}, 0, 7, x)
			for d := range 3 {
				put(t, b, d, 0, i, api.Sector{})
				for e := range 3 {
					if e <= d {
						loadsNone(t, "on none of them", b, []int{e}, 7)
					} else {
						loads(t, "on one of them", b, []int{d, e}, 0, 7, 7, x)
					}
				}
			}
			loadsNone(t, "on none of all", b, []int{0, 1, 2}, 7)
		}
	}
}

// Two members have a checkpoint's sectors, and they hold other bytes: of each sector it is the first member in live that counts.
func TestTheFirstMemberThatHasIt(t *testing.T) {
	x, y := count(0, 130), count(100, 130)
	for ways := range 8 {
		b := bankOf(t, 3)
		lay(t, b, []int{0}, 1, 7, x)
		lay(t, b, []int{2}, 1, 7, y)
		want := slices.Clone(x)
		for i := range 3 {
			if ways>>i&1 == 1 {
				put(t, b, 0, 1, i, plain(6, 0, i, 3, count(0, 53)))
				copy(want[53*i:min(53*i+53, 130)], y[53*i:])
			}
		}
		loads(t, "0 ahead of 2", b, []int{1, 0, 2}, 1, 7, 7, want)
		loads(t, "2 ahead of 0", b, []int{2, 1, 0}, 1, 7, 7, y)
	}
	// Last parts that are not equally long.
	b := bankOf(t, 2)
	lay(t, b, []int{0}, 1, 7, count(0, 60))
	lay(t, b, []int{1}, 1, 7, count(0, 70))
	loads(t, "the shorter one", b, []int{0, 1}, 1, 7, 7, count(0, 60))
	loads(t, "the longer one", b, []int{1, 0}, 1, 7, 7, count(0, 70))
}

// Of several first parts of one generation that of the first member by which the checkpoint is there counts.
func TestFirstPartsThatSayUnlikeNumbers(t *testing.T) {
	b := bankOf(t, 3)
	put(t, b, 0, 0, 0, plain(7, 0, 0, 2, count(0, 53)))
	put(t, b, 1, 0, 0, plain(7, 0, 0, 1, count(1, 9)))
	put(t, b, 2, 0, 0, plain(7, 0, 0, 40, count(2, 53)))
	for _, live := range [][]int{{0, 1, 2}, {2, 1, 0}, {1, 0, 2}, {2, 0, 1}} {
		loads(t, "of one part alone", b, live, 0, 7, 7, count(1, 9))
	}
	loadsNone(t, "without it", b, []int{0, 2}, 7)
	put(t, b, 2, 0, 1, plain(7, 0, 1, 2, count(2, 9)))
	two := append(count(0, 53), count(2, 9)...)
	loads(t, "of two ahead of one", b, []int{2, 0, 1}, 0, 7, 7, two)
	loads(t, "of one ahead of two", b, []int{2, 1, 0}, 0, 7, 7, count(1, 9))
	put(t, b, 2, 0, 0, plain(7, 0, 0, 2, count(3, 53)))
	three := append(count(3, 53), count(2, 9)...)
	loads(t, "of two members with a first part of two the first", b, []int{2, 0, 1}, 0, 7, 7, three)
	loads(t, "of two members with a first part of two the first", b, []int{0, 2, 1}, 0, 7, 7, two)
}

// Of one area, too, the newest one that is there is told, whichever member has it.
func TestTwoGenerationsInOneArea(t *testing.T) {
	for area := range 2 {
		b := bankOf(t, 3)
		lay(t, b, []int{0}, area, 7, count(0, 160))
		lay(t, b, []int{1}, area, 8, count(1, 60))
		for _, live := range [][]int{{0, 1, 2}, {2, 1, 0}} {
			loads(t, "both are there", b, live, area, 8, 8, count(1, 60))
		}
		put(t, b, 1, area, 1, api.Sector{})
		for _, live := range [][]int{{0, 1, 2}, {2, 1, 0}} {
			loads(t, "the older one is", b, live, area, 7, 8, count(0, 160))
		}
		put(t, b, 2, area, 1, plainSplit(8, count(1, 60))[1])
		for _, live := range [][]int{{0, 1, 2}, {2, 1, 0}} {
			loads(t, "the newer one on two", b, live, area, 8, 8, count(1, 60))
		}
		put(t, b, 0, area, 3, api.Sector{})
		loadsNone(t, "neither", b, []int{0, 1}, 8)
	}
}

// An older generation is tried, too, if it is met first, last, and between newer ones, of which some are not there.
func TestManyGenerationsInOneArea(t *testing.T) {
	b := bankOf(t, 5)
	live := []int{0, 1, 2, 3, 4}
	gens := []int{9, 3, 12, 5, 1}
	for d, gen := range gens {
		lay(t, b, []int{d}, 1, gen, count(d, 60))
	}
	for _, d := range []int{2, 0, 3, 1, 4} {
		loads(t, "the newest", b, live, 1, gens[d], 12, count(d, 60))
		put(t, b, d, 1, 1, api.Sector{})
	}
	loadsNone(t, "none", b, live, 12)
}

// The other area's checkpoint is older, or newer, than one that is there, and one that is not.
func TestANewerOneThatIsNotThere(t *testing.T) {
	for area := range 2 {
		b := bankOf(t, 2)
		lay(t, b, []int{0, 1}, area, 7, count(0, 160))
		lay(t, b, []int{0, 1}, 1-area, 9, count(1, 160))
		loads(t, "both", b, []int{0, 1}, 1-area, 9, 9, count(1, 160))
		for d := range 2 {
			put(t, b, d, 1-area, 2, api.Sector{})
		}
		loads(t, "the older one", b, []int{0, 1}, area, 7, 9, count(0, 160))
		lay(t, b, []int{1}, 1-area, 6, count(2, 160))
		loads(t, "two that are there, and one that is not", b, []int{0, 1}, area, 7, 9, count(0, 160))
	}
}

// A part of the number 0 is seen wherever it is in an area, whichever part it is, and of how many.
func TestSeen(t *testing.T) {
	for area := range 2 {
		for i := range 32 {
			for d := range 3 {
				b := bankOf(t, 3)
				loadsNone(t, "nothing", b, []int{0, 1, 2}, 0)
				put(t, b, d, area, i, plain(500, 0, 39-i, 40, count(1, 53)))
				loadsNone(t, "a part alone", b, []int{0, 1, 2}, 500)
				put(t, b, d, area, i, plain(500, 1, 39-i, 40, count(1, 53)))
				loadsNone(t, "of another number", b, []int{0, 1, 2}, 0)
				lay(t, b, []int{0, 1}, 1-area, 20, count(1, 60))
				put(t, b, d, area, i, plain(19, 0, i, 40, count(1, 53)))
				loads(t, "an older one", b, []int{0, 1, 2}, 1-area, 20, 20, count(1, 60))
				put(t, b, d, area, i, plain(big-1, 0, i, 40, count(1, 53)))
				loads(t, "a newer one", b, []int{0, 1, 2}, 1-area, 20, big-1, count(1, 60))
				loads(t, "without that member", b, []int{(d + 1) % 3, (d + 2) % 3}, 1-area, 20, 20, count(1, 60))
				b.Fail(d)
				loads(t, "it has failed", b, []int{0, 1, 2}, 1-area, 20, 20, count(1, 60))
			}
		}
	}
}

// What is ahead of the areas, and behind them, is none's.
func TestNothingBesideTheAreasIsSeen(t *testing.T) {
	b := bankOf(t, 2)
	for at := range 160 {
		if at < 50 || at >= 114 {
			is(t, "Write", b.Write(api.Place{Disk: 1, At: at}, plain(7, 0, 0, 1, nil)), api.OK)
		}
	}
	loadsNone(t, "beside them", b, []int{0, 1}, 0)
	lay(t, b, []int{0}, 1, 6, count(0, 1696))
	loads(t, "in one of them", b, []int{0, 1}, 1, 6, 6, count(0, 1696))
}

// The newest one is told by the areas' first sectors alone; a whole one that begins behind that is none.
func TestACheckpointThatBeginsTooLate(t *testing.T) {
	b := bankOf(t, 1)
	for i, s := range plainSplit(7, count(0, 160)) {
		put(t, b, 0, 0, i+1, s)
	}
	put(t, b, 0, 1, 31, plain(9, 0, 0, 1, nil))
	loadsNone(t, "too late", b, []int{0}, 9)
}

func TestLiveMembersOfLoad(t *testing.T) {
	b := bankOf(t, 4)
	lay(t, b, []int{1}, 0, 7, count(0, 60))
	for _, live := range [][]int{{1}, {0, 1, 2, 3}, {1, 1}, {0, 0, 1, 1, 0}, {3, 1}, {1, 2}, slices.Repeat([]int{0, 9, 2, 1}, 5000)} {
		loads(t, "with the one that has it", b, live, 0, 7, 7, count(0, 60))
	}
	for _, live := range [][]int{{0}, {2, 3}, {0, 2, 3}, {0, 0}} {
		loadsNone(t, "without it", b, live, 0)
	}
	for _, d := range noDisks(4) {
		loads(t, "and no disk", b, []int{d, 1}, 0, 7, 7, count(0, 60))
		loads(t, "and no disk", b, []int{1, d}, 0, 7, 7, count(0, 60))
		loadsNone(t, "and no disk", b, []int{d, 0, d}, 0)
		loadsNot(t, "no disk", b, []int{d}, api.ErrFailed)
		loadsNot(t, "no disk", b, []int{d, d, -7}, api.ErrFailed)
	}
	loadsNot(t, "nil", b, nil, api.ErrFailed)
	loadsNot(t, "none", b, []int{}, api.ErrFailed)
	loadsNot(t, "no disks at all", disk.NewBank(), []int{0, 1}, api.ErrFailed)
}

// Which member is first is told by its first place in live.
func TestTheFirstPlaceInLive(t *testing.T) {
	b := bankOf(t, 2)
	lay(t, b, []int{0}, 0, 7, count(0, 60))
	lay(t, b, []int{1}, 0, 7, count(1, 60))
	loads(t, "0 first", b, []int{9, 0, 1, 0}, 0, 7, 7, count(0, 60))
	loads(t, "1 first", b, []int{1, 0, 1, 0, 0}, 0, 7, 7, count(1, 60))
}

func TestDeadMembersOfLoad(t *testing.T) {
	b := bankOf(t, 3)
	lay(t, b, []int{0, 1}, 1, 7, count(0, 60))
	lay(t, b, []int{0}, 0, 8, count(1, 60))
	loads(t, "all live", b, []int{0, 1, 2}, 0, 8, 8, count(1, 60))
	b.Fail(0)
	loads(t, "a dead one first", b, []int{0, 1, 2}, 1, 7, 7, count(0, 60))
	loads(t, "a dead one last", b, []int{2, 1, 0}, 1, 7, 7, count(0, 60))
	loadsNone(t, "one that has nothing", b, []int{0, 2}, 0)
	loadsNot(t, "a dead one alone", b, []int{0}, api.ErrFailed)
	loadsNot(t, "a dead one and no disk", b, []int{0, 9, 0}, api.ErrFailed)
	b.Fail(1)
	loadsNone(t, "one that has nothing", b, []int{0, 1, 2}, 0)
	b.Fail(2)
	loadsNot(t, "all of them", b, []int{0, 1, 2}, api.ErrFailed)
}

func TestLoadWithoutPower(t *testing.T) {
	b := bankOf(t, 3)
	lay(t, b, []int{0, 1, 2}, 0, 7, count(0, 60))
	b.Fail(0)
	b.Crash(0)
	loadsNot(t, "down", b, []int{1, 2}, api.ErrDown)
	loadsNot(t, "down, behind a dead one", b, []int{0, 9, 2}, api.ErrDown)
	loadsNot(t, "down, ahead of a dead one", b, []int{2, 0}, api.ErrDown)
	loadsNot(t, "a dead one alone", b, []int{0, 9}, api.ErrFailed)
	loadsNot(t, "none", b, nil, api.ErrFailed)
	b.Start()
	loads(t, "up", b, []int{0, 1, 2}, 0, 7, 7, count(0, 60))
}

// All sectors of the areas are read, for what is seen: a disk that does not have them all answers ErrRange, and that is told.
func TestADiskThatIsTooSmallForTheAreas(t *testing.T) {
	for sectors := 1; sectors <= 116; sectors++ {
		b := bankOf(t, 1)
		lay(t, b, []int{0}, 0, 7, count(0, 60))
		b.Add(sectors)
		if sectors >= 114 {
			loads(t, "large enough", b, []int{0, 1}, 0, 7, 7, count(0, 60))
			loadsNone(t, "large enough, alone", b, []int{1}, 0)
			continue
		}
		loadsNot(t, "behind", b, []int{0, 1}, api.ErrRange)
		loadsNot(t, "ahead", b, []int{1, 0}, api.ErrRange)
		loadsNot(t, "alone", b, []int{1}, api.ErrRange)
		loadsNot(t, "beside no disk", b, []int{9, 1}, api.ErrRange)
		b.Fail(1)
		loads(t, "dead", b, []int{1, 0}, 0, 7, 7, count(0, 60))
		loadsNot(t, "dead, alone", b, []int{1}, api.ErrFailed)
	}
}

// What is newest of a sector is read, flushed or not; and what Load tells is the caller's, whatever is written then.
func TestLoadOfWhatIsLoose(t *testing.T) {
	b := bankOf(t, 1)
	b.Write(place(0, 1, 0), plainSplit(7, count(0, 9))[0])
	loads(t, "loose", b, []int{0}, 1, 7, 7, count(0, 9))
	f, _ := Load(b, []int{0})
	b.Crash(0)
	b.Start()
	loadsNone(t, "lost", b, []int{0}, 0)
	if !sameFound(f, Found{Area: 1, Gen: 7, Bytes: count(0, 9), Seen: 7}) {
		t.Fatal("an answer changes with the bank")
	}
}
