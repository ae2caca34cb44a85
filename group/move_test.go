package group

import (
	"math"
	"math/rand"
	"slices"
	"testing"

	"braidwork/api"
)

// plainMove is Move as the chapter tells it; a disk of -1: there is none.
func plainMove(groups []api.Group, rooms []int, lost int) (int, int) {
	first := slices.IndexFunc(groups, func(g api.Group) bool { return slices.Contains(ownDisks(g), lost) })
	if first < 0 || !triedSafe(groups, rooms, lost) {
		return 0, -1
	}
	others := append(slices.Clone(groups[:first]), groups[first+1:]...)
	for width := 1; ; width++ {
		l, ok := plainPick(rooms, width, ownDisks(groups[first]))
		if !ok {
			return 0, -1
		}
		less := slices.Clone(rooms)
		less[l[width-1]]--
		if triedSafe(others, less, lost) {
			return first, l[width-1]
		}
	}
}

func TestMoveOfTheChaptersExampleOfSafe(t *testing.T) {
	groups := []api.Group{on(0, 1), on(0, 2)}
	wantMove(t, groups, []int{9, 1, 1}, 0, 0, 2)
	wantMove(t, groups[1:], []int{9, 1, 0}, 0, 0, 1)
	wantMove(t, groups, []int{9, 2, 0}, 0, 0, -1)
}

func TestMoveOfTheFirstGroupThatHasLost(t *testing.T) {
	groups := []api.Group{on(0, 1), {}, on(1, 2), on(2, 3), on(2, 0)}
	rooms := []int{3, 3, 3, 3}
	wantMove(t, groups, rooms, 0, 0, 2)
	wantMove(t, groups, rooms, 1, 0, 2)
	wantMove(t, groups, rooms, 2, 2, 0)
	wantMove(t, groups, rooms, 3, 3, 0)
	wantMove(t, groups[:4], []int{3, 0, 3, 3}, 3, 3, 0)
}

func TestMoveOfNothingToMove(t *testing.T) {
	groups := []api.Group{on(0, 1), on(1, 2)}
	for _, rooms := range [][]int{nil, {}, {0, 0, 0}, {9, 9, 9, 9}} {
		for _, lost := range append([]int{3, 4}, strangers...) {
			wantMove(t, groups, rooms, lost, 0, -1)
			wantMove(t, nil, rooms, lost, 0, -1)
			wantMove(t, []api.Group{{}, {}}, rooms, lost, 0, -1)
		}
	}
	if at, d, ok := Move(nil, nil, 0); at != 0 || d != 0 || ok {
		t.Errorf("nil: %d, %d, %v", at, d, ok)
	}
}

// Where not all find a disk, none is moved, though the first one could be.
func TestMoveWhereItIsNotSafe(t *testing.T) {
	wantMove(t, []api.Group{on(3, 0), on(3, 0)}, []int{9, 1, 0, 9}, 3, 0, -1)
	wantMove(t, []api.Group{on(0, 1), on(3, 0), on(3, 0, 1)}, []int{9, 1, 0, 9}, 3, 0, -1)
	wantMove(t, []api.Group{on(1), on(0, 1, 2, 3)}, []int{9, 9, 9, 9}, 1, 0, -1)
	wantMove(t, []api.Group{on(0)}, []int{9}, 0, 0, -1)
	wantMove(t, []api.Group{on(0)}, []int{9, -1, math.MinInt}, 0, 0, -1)
	wantMove(t, []api.Group{on(0)}, nil, 0, 0, -1)
	// The room of no other group matters.
	wantMove(t, []api.Group{on(0, 1, 2), on(1)}, []int{9, 9, 9, 1}, 1, 0, 3)
	wantMove(t, []api.Group{on(0, 1, 2), on(1)}, []int{0, 9, 0, 1}, 1, 0, -1)
}

func TestMoveInTheOrderOfPick(t *testing.T) {
	groups := []api.Group{on(4, 1)}
	wantMove(t, groups, []int{1, 9, 3, 3, 9, 2}, 4, 0, 2)
	wantMove(t, groups, []int{4, 9, 3, 3, 9, 2}, 4, 0, 0)
	wantMove(t, groups, []int{0, 9, 1, 1, 9, 2}, 4, 0, 5)
	wantMove(t, groups, []int{-1, 9, 0, 1, 9, math.MaxInt}, 4, 0, 5)
	wantMove(t, groups, []int{math.MaxInt, 9, 0, 1, 9, math.MaxInt}, 4, 0, 0)
	wantMove(t, groups, []int{1, 1, 1, 1, 1}, 4, 0, 0)
	wantMove(t, groups, []int{-1, 1, -1, 1, 1}, 4, 0, 3)
}

// The first disk that could be picked is left to a group that has no other one.
func TestMoveOutOfCorners(t *testing.T) {
	wantMove(t, []api.Group{on(9), on(9, 1)}, []int{1, 1}, 9, 0, 1)
	wantMove(t, []api.Group{on(9), on(9, 1), on(9, 1)}, []int{2, 1}, 9, 0, 1)
	wantMove(t, []api.Group{on(9), on(9, 1), on(9, 1)}, []int{3, 1}, 9, 0, 0)
	wantMove(t, []api.Group{on(9), on(9, 1), on(9, 0)}, []int{1, 1, 1}, 9, 0, 0) // the others go to 2 and 1
	wantMove(t, []api.Group{on(9), on(9, 1, 2), on(9, 0, 2)}, []int{1, 1, 1}, 9, 0, 2)
	wantMove(t, []api.Group{on(9), on(9, 1, 2), on(9, 0, 2)}, []int{1, 1, 1, 5}, 9, 0, 3)
	// Groups that don't have it need none.
	wantMove(t, []api.Group{on(1), on(9), on(1, 2)}, []int{1, 1}, 9, 1, 0)
}

func TestMoveOfNumbersThatAreNoDisk(t *testing.T) {
	for _, lost := range strangers {
		groups := []api.Group{on(0, 1), on(lost, 0), on(1, lost)}
		wantMove(t, groups, []int{1, 1}, lost, 1, 1)
		wantMove(t, groups, []int{2, 0}, lost, 0, -1)
		wantMove(t, groups, []int{1, 1, 3}, lost, 1, 2)
		wantMove(t, groups, nil, lost, 0, -1)
		wantMove(t, []api.Group{on(strangers...)}, []int{0, 1}, lost, 0, 1)
	}
}

// A group that has the lost disk twice is one group; kinds and numbers don't matter.
func TestMoveAsksForDisksAlone(t *testing.T) {
	wantMove(t, []api.Group{on(0, 0, 2, 2)}, []int{9, 1, 9, 1}, 0, 0, 1)
	x := []api.Extent{{Disk: 0, At: -4}, {Disk: 1}}
	for _, kind := range []int{api.None, api.Mirror, api.Raid, 3, -1} {
		wantMove(t, []api.Group{{ID: 5, Kind: kind}, {ID: -3, Kind: kind, Ext: x}}, []int{0, 9, 2}, 0, 1, 2)
	}
}

// One way alone goes round all groups: whichever stands first, there is one disk for it.
func TestMoveOfOneWayAlone(t *testing.T) {
	for n := 2; n <= 24; n++ {
		for _, order := range orders(n) {
			groups, rooms := chain(order, n)
			for i := range groups {
				// The group i goes to the place i+1, and the last one to 0.
				wantMove(t, append(slices.Clone(groups[i:]), groups[:i]...), rooms, n, 0, order[(i+1)%n])
			}
			rooms[order[n/2]] = 0
			wantMove(t, groups, rooms, n, 0, -1)
		}
	}
}

func TestMoveOfAllSmallLists(t *testing.T) {
	eachSmall(func(groups []api.Group, rooms []int) {
		for lost := range 4 {
			at, d := plainMove(groups, rooms, lost)
			wantMove(t, groups, rooms, lost, at, d)
		}
	})
}

func TestMoveOfManyLists(t *testing.T) {
	r := rand.New(rand.NewSource(10))
	for range 6000 {
		n := r.Intn(7)
		groups, rooms := randomGroups(r, r.Intn(7), n), randomRooms(r, n, 1+r.Intn(4))
		lost := r.Intn(n+3) - 1
		at, d := plainMove(groups, rooms, lost)
		wantMove(t, groups, rooms, lost, at, d)
	}
}
