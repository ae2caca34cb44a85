package group

import (
	"math"
	"math/rand"
	"slices"
	"testing"

	"braidwork/api"
)

// plainNeedy is the disks of each group that has lost.
func plainNeedy(groups []api.Group, lost int) [][]int {
	var l [][]int
	for _, g := range groups {
		if d := ownDisks(g); slices.Contains(d, lost) {
			l = append(l, d)
		}
	}
	return l
}

// triedSafe is Safe by trying all ways to give disks.
func triedSafe(groups []api.Group, rooms []int, lost int) bool {
	left := slices.Clone(rooms)
	var give func(l [][]int) bool
	give = func(l [][]int) bool {
		if len(l) == 0 {
			return true
		}
		for d := range left {
			if left[d] <= 0 || slices.Contains(l[0], d) {
				continue
			}
			left[d]--
			ok := give(l[1:])
			left[d]++
			if ok {
				return true
			}
		}
		return false
	}
	return give(plainNeedy(groups, lost))
}

// countedSafe is Safe by counting (the theorem of Hall): of no set of disks is it true that more groups may go to these alone than have room there.
func countedSafe(groups []api.Group, rooms []int, lost int) bool {
	needy := plainNeedy(groups, lost)
	for set := range 1 << len(rooms) {
		room, bound := 0, 0
		for d, n := range rooms {
			if set>>d&1 == 1 {
				room += min(max(n, 0), 1000000)
			}
		}
		for _, l := range needy {
			outside := false
			for d := range rooms {
				outside = outside || set>>d&1 == 0 && !slices.Contains(l, d)
			}
			if !outside {
				bound++
			}
		}
		if bound > room {
			return false
		}
	}
	return true
}

func TestTheChaptersExampleOfSafe(t *testing.T) {
	groups := []api.Group{on(0, 1), on(0, 2)}
	wantSafe(t, groups, []int{9, 1, 1}, 0, true)
	wantSafe(t, groups, []int{9, 2, 0}, 0, false)
}

func TestSafeOfNoGroups(t *testing.T) {
	for _, lost := range append([]int{0, 1, 2}, strangers...) {
		for _, rooms := range [][]int{nil, {}, {0}, {-1, math.MinInt}, {3, 0, 1}} {
			wantSafe(t, nil, rooms, lost, true)
			wantSafe(t, []api.Group{}, rooms, lost, true)
			wantSafe(t, []api.Group{{}, {ID: 4, Kind: api.Raid}}, rooms, lost, true)
		}
	}
	if !Safe(nil, nil, 0) || !AllSafe(nil, nil) {
		t.Error("nil")
	}
}

func TestSafeOfALostDiskThatNoGroupHas(t *testing.T) {
	groups := []api.Group{on(0, 1, 2), on(1, 2, 4), on(0, 4)}
	for _, rooms := range [][]int{nil, {0, 0, 0, 0, 0}, {-1, -1, -1}, {1, 1, 1, 1, 1}} {
		wantSafe(t, groups, rooms, 3, true)
		wantSafe(t, groups, rooms, 5, true)
		for _, lost := range strangers {
			wantSafe(t, groups, rooms, lost, true)
		}
	}
}

func TestSafeOfALostDiskThatOneGroupHas(t *testing.T) {
	groups := []api.Group{on(1, 2), on(0, 2), on(1, 3)}
	for _, c := range []struct {
		rooms []int
		want  bool
	}{
		{[]int{0, 1, 0, 0}, true},
		{[]int{0, 0, 0, 1}, true},
		{[]int{0, 0, 0, 0, 0, 1}, true},
		{[]int{9, 0, 9, 0}, false}, // what the group has is none for it
		{[]int{9, -1, 9, -1}, false},
		{[]int{9, math.MinInt, 9, math.MinInt}, false},
		{[]int{0, 1}, true},
		{[]int{9}, false},
		{nil, false},
	} {
		wantSafe(t, groups, c.rooms, 0, c.want)
	}
}

func TestSafeOfALostDiskThatAllGroupsHave(t *testing.T) {
	groups := []api.Group{on(3, 0), on(3, 1), on(3, 2), on(0, 3)}
	for _, c := range []struct {
		rooms []int
		want  bool
	}{
		{[]int{1, 1, 2, 0}, true},
		{[]int{4, 0, 0, 0}, false}, // two of them have the disk 0
		{[]int{2, 1, 1, 0}, true},
		{[]int{2, 2, 0, 0}, true},
		{[]int{2, 0, 2, 9}, true},
		{[]int{3, 1, 0, 0}, false},
		{[]int{3, 0, 1, 0}, false},
		{[]int{0, 0, 4, 0}, false},
		{[]int{0, 1, 3, 0}, true},
		{[]int{0, 0, 0, 0, 4}, true},
		{[]int{0, 0, 0, 0, 3}, false},
		{[]int{0, 0, 1, 0, 3}, true},
	} {
		wantSafe(t, groups, c.rooms, 3, c.want)
	}
}

func TestSafeOfMoreGroupsThanRoom(t *testing.T) {
	var groups []api.Group
	for n := range 20 {
		for room := -1; room < 10; room++ {
			wantSafe(t, groups, []int{50, room, room, 1}, 0, 2*max(room, 0)+1 >= n)
		}
		groups = append(groups, on(0))
	}
}

func TestSafeOfAGroupThatHasAllDisks(t *testing.T) {
	rooms := []int{9, 9, 9, 9}
	all := []api.Group{on(0, 1), on(2, 0, 3, 1), on(1, 2)}
	for lost := range 4 {
		wantSafe(t, all, rooms, lost, false)
		wantSafe(t, all, append(rooms, 1), lost, true)
		wantSafe(t, all, append(rooms, 0), lost, false)
		wantSafe(t, []api.Group{on(0, 1), on(1, 2), on(2, 3), on(3, 0)}, rooms, lost, true)
	}
	// All that are left, and one that is no disk any more.
	wantSafe(t, []api.Group{on(0, 1, 2, 3, 4)}, rooms, 4, false)
}

// The lost disk's own room is none for those that had it.
func TestSafeDoesNotGiveTheLostDisk(t *testing.T) {
	wantSafe(t, []api.Group{on(0)}, []int{9}, 0, false)
	wantSafe(t, []api.Group{on(1), on(1)}, []int{1, 9}, 1, false)
	wantSafe(t, []api.Group{on(1), on(1)}, []int{2, 0}, 1, true)
}

// A lost disk, and disks of groups, need not be among those of which rooms tells.
func TestSafeOfNumbersThatAreNoDisk(t *testing.T) {
	for _, lost := range strangers {
		groups := []api.Group{on(lost, 0), on(1, lost), on(0, 1)}
		wantSafe(t, groups, []int{1, 1}, lost, true)
		wantSafe(t, groups, []int{2, 0}, lost, false)
		wantSafe(t, groups, []int{2, 0, 1}, lost, true)
		wantSafe(t, groups, nil, lost, false)
		wantSafe(t, []api.Group{on(append([]int{0}, strangers...)...)}, []int{0, 1}, lost, true)
		wantSafe(t, []api.Group{on(append([]int{0}, strangers...)...)}, []int{1, 0}, lost, false)
	}
}

// A group that has the lost disk twice needs one disk all the same; its kind and its number don't matter.
func TestSafeAsksForDisksAlone(t *testing.T) {
	wantSafe(t, []api.Group{on(0, 0, 2, 2)}, []int{9, 1, 9}, 0, true)
	wantSafe(t, []api.Group{on(0, 0), on(0, 0, 0)}, []int{9, 1, 1}, 0, true)
	wantSafe(t, []api.Group{on(0, 0), on(0, 0, 0)}, []int{9, 1, 0}, 0, false)
	x := []api.Extent{{Disk: 0, At: -4}, {Disk: 1}}
	for _, kind := range []int{api.None, api.Mirror, api.Raid, 3, -1} {
		groups := []api.Group{{ID: -3, Kind: kind, Ext: x}, {ID: -3, Kind: kind, Ext: x}}
		wantSafe(t, groups, []int{0, 9, 2}, 0, true)
		wantSafe(t, groups, []int{0, 9, 1}, 0, false)
	}
}

func TestSafeOfTheGreatestRooms(t *testing.T) {
	groups := []api.Group{on(0, 1), on(0, 2), on(0)}
	wantSafe(t, groups, []int{0, math.MaxInt, 0}, 0, false)
	wantSafe(t, groups, []int{0, math.MaxInt, 1}, 0, true)
	wantSafe(t, groups, []int{0, math.MaxInt, math.MaxInt}, 0, true)
	wantSafe(t, groups, []int{0, math.MinInt, math.MaxInt, 1}, 0, true)
	wantSafe(t, groups, []int{0, math.MinInt, math.MaxInt}, 0, false)
}

// Two groups take turns for disks that both may have, until one is left over.
func TestSafeOfGroupsThatMakeRoom(t *testing.T) {
	wantSafe(t, []api.Group{on(9), on(9, 1)}, []int{1, 1}, 9, true) // the first one goes to 1
	wantSafe(t, []api.Group{on(9), on(9, 0)}, []int{1, 1}, 9, true)
	wantSafe(t, []api.Group{on(9, 1), on(9, 1)}, []int{1, 1}, 9, false)
	wantSafe(t, []api.Group{on(9), on(9), on(9, 1, 2), on(9, 0, 2)}, []int{1, 1, 2}, 9, true)
	wantSafe(t, []api.Group{on(9), on(9), on(9, 1, 2), on(9, 1, 2)}, []int{1, 1, 2}, 9, false)
	// A disk with room for several: the one that can go away is not the first that has it.
	wantSafe(t, []api.Group{on(9, 1), on(9), on(9, 1)}, []int{2, 1}, 9, true)
	wantSafe(t, []api.Group{on(9, 1), on(9, 1), on(9), on(9, 1)}, []int{3, 1}, 9, true)
}

// chain is groups that have lost, and rooms, with one way alone: the group i may go to the places i and i+1 alone, the last one to the place 0 alone, so that all others go to their second one. Which disk is at a place tells order.
func chain(order []int, lost int) ([]api.Group, []int) {
	rooms := make([]int, len(order))
	var groups []api.Group
	for i := range order {
		rooms[order[i]] = 1
		first, second := i, i+1
		if second == len(order) {
			first, second = 0, 0
		}
		l := []int{lost}
		for place, d := range order {
			if place != first && place != second {
				l = append(l, d)
			}
		}
		groups = append(groups, on(l...))
	}
	return groups, rooms
}

// orders is some orders of n disks: rising, falling, and mixed ones.
func orders(n int) [][]int {
	r := rand.New(rand.NewSource(int64(n)))
	up, down := make([]int, n), make([]int, n)
	for i := range n {
		up[i], down[i] = i, n-1-i
	}
	return [][]int{up, down, r.Perm(n), r.Perm(n), r.Perm(n)}
}

func TestSafeOfOneWayAlone(t *testing.T) {
	for n := 2; n <= 40; n++ {
		for _, order := range orders(n) {
			groups, rooms := chain(order, n)
			wantSafe(t, groups, rooms, n, true)
			for d := range rooms {
				rooms[d] = 0
				wantSafe(t, groups, rooms, n, false)
				rooms[d] = 1
			}
			wantSafe(t, append(groups, on(n)), rooms, n, false)
			wantSafe(t, append(groups, on(n)), append(rooms, 7), n, false) // the room of the lost one itself
			wantSafe(t, append(groups, on(n)), append(rooms, 0, 1), n, true)
		}
	}
}

func TestSafeOfOneWayAloneThroughMany(t *testing.T) {
	for _, order := range orders(300)[:3] {
		groups, rooms := chain(order, 300)
		wantSafe(t, groups, rooms, 300, true)
		rooms[order[299]] = 0
		wantSafe(t, groups, rooms, 300, false)
	}
}

func TestSafeOfManyGroups(t *testing.T) {
	var groups []api.Group
	for i := range 6000 {
		groups = append(groups, on(12, i%12, (i+5)%12))
	}
	rooms := slices.Repeat([]int{500}, 12)
	wantSafe(t, groups, rooms, 12, true)
	rooms[7]--
	wantSafe(t, groups, rooms, 12, false)
}

// subset is the group on those of these disks whose bits are 1.
func subset(disks []int, set int) api.Group {
	var l []int
	for i, d := range disks {
		if set>>i&1 == 1 {
			l = append(l, d)
		}
	}
	return on(l...)
}

// eachSmall goes through all rooms from -1 to 2 of three disks, and two groups on any of four.
func eachSmall(do func(groups []api.Group, rooms []int)) {
	for i := range 64 {
		rooms := []int{i&3 - 1, i>>2&3 - 1, i>>4&3 - 1}
		for set := range 256 {
			disks := []int{0, 1, 2, 3}
			do([]api.Group{subset(disks, set&15), subset(disks, set>>4)}, rooms)
		}
	}
}

func TestSafeOfAllSmallLists(t *testing.T) {
	eachSmall(func(groups []api.Group, rooms []int) {
		for lost := -1; lost <= 4; lost++ {
			wantSafe(t, groups, rooms, lost, triedSafe(groups, rooms, lost))
		}
	})
}

// randomGroups is n groups on disks up to most, some of them on numbers that are no disk, and some twice on one.
func randomGroups(r *rand.Rand, n, most int) []api.Group {
	var groups []api.Group
	for range n {
		l := r.Perm(most + 1)
		l = l[:r.Intn(len(l)+1)]
		if r.Intn(3) > 0 {
			l = l[:min(len(l), 4)]
		}
		if r.Intn(6) == 0 {
			l = append(l, r.Intn(most+4)-2)
		}
		groups = append(groups, on(l...))
	}
	return groups
}

func randomRooms(r *rand.Rand, n, most int) []int {
	rooms := make([]int, n)
	for d := range rooms {
		rooms[d] = r.Intn(most+2) - 1
	}
	return rooms
}

func TestSafeOfManyLists(t *testing.T) {
	r := rand.New(rand.NewSource(9))
	yes := 0
	for range 12000 {
		n := r.Intn(9)
		groups, rooms := randomGroups(r, r.Intn(14), n), randomRooms(r, n, 1+r.Intn(4))
		lost := r.Intn(n+3) - 1
		want := countedSafe(groups, rooms, lost)
		if len(groups) < 6 && want != triedSafe(groups, rooms, lost) {
			t.Fatalf("%v %v %d: counted %v, tried not", groups, rooms, lost, want)
		}
		wantSafe(t, groups, rooms, lost, want)
		if want && len(plainNeedy(groups, lost)) > 1 {
			yes++
		}
	}
	if yes < 800 || yes > 11000 {
		t.Errorf("%d of all are Safe: the lists say little", yes)
	}
}

func wantAllSafe(t *testing.T, groups []api.Group, rooms []int, want bool) {
	t.Helper()
	if ok := allSafe(t, groups, rooms); ok != want {
		t.Errorf("AllSafe(%v, %v): %v", groups, rooms, ok)
	}
}

func TestAllSafeAsksForEachDisk(t *testing.T) {
	groups := []api.Group{on(0, 1, 2), on(1, 2, 3)}
	wantAllSafe(t, groups, []int{1, 0, 0, 1}, true)
	wantAllSafe(t, groups, []int{1, 0, 0, 0}, false) // 0 is not Safe
	wantAllSafe(t, groups, []int{0, 0, 0, 1}, false) // 3 is not
	wantAllSafe(t, groups, []int{0, 0, 0, 0, 2}, true)
	wantAllSafe(t, groups, []int{0, 0, 0, 0, 1}, false) // 1 and 2 are not
	wantAllSafe(t, groups, []int{0, 9, 9, 0, 1}, false)
	wantAllSafe(t, []api.Group{on(0, 1), on(0, 2)}, []int{9, 1, 1}, true)
	wantAllSafe(t, []api.Group{on(0, 1), on(0, 2)}, []int{9, 2, 0}, false)
	wantAllSafe(t, []api.Group{on(0, 1, 2, 3)}, []int{9, 9, 9, 9}, false)
}

// One disk alone is lost at a time: what one needs is there for another one, too.
func TestAllSafeLosesOneAlone(t *testing.T) {
	wantAllSafe(t, []api.Group{on(0), on(1), on(2)}, []int{0, 0, 0, 1}, true)
	wantAllSafe(t, []api.Group{on(0), on(1), on(3)}, []int{0, 0, 0, 1}, false)
	wantAllSafe(t, []api.Group{on(0), on(1), on(2), on(2)}, []int{0, 0, 0, 1}, false)
}

func TestAllSafeOfOneDiskThatIsNot(t *testing.T) {
	for n := 3; n <= 12; n++ {
		for lost := range n {
			rooms := slices.Repeat([]int{1}, n)
			wantAllSafe(t, nil, rooms, true)
			groups := slices.Repeat([]api.Group{on(lost)}, n-1)
			wantAllSafe(t, groups, rooms, true)
			wantAllSafe(t, append(groups, on(lost)), rooms, false)
		}
	}
}

// Of disks of which rooms does not tell it is not asked.
func TestAllSafeOfNoDisks(t *testing.T) {
	for _, groups := range [][]api.Group{nil, {}, {on(0, 1)}, {on(strangers...)}} {
		wantAllSafe(t, groups, nil, true)
		wantAllSafe(t, groups, []int{}, true)
	}
	for _, d := range strangers {
		wantAllSafe(t, []api.Group{on(d), on(d), on(d)}, []int{0, 1}, true)
	}
	wantAllSafe(t, []api.Group{on(1)}, []int{0}, true)
	wantAllSafe(t, []api.Group{on(1)}, []int{0, 9}, false)
	wantAllSafe(t, []api.Group{on(1)}, []int{0, 9, 1}, true)
}

func TestAllSafeOfAllSmallLists(t *testing.T) {
	eachSmall(func(groups []api.Group, rooms []int) {
		want := true
		for lost := range rooms {
			want = want && triedSafe(groups, rooms, lost)
		}
		wantAllSafe(t, groups, rooms, want)
	})
}
