package group

import (
	"math/rand"
	"slices"
	"testing"

	"braidwork/api"
)

// moved is the groups behind a move: the group at the place at has the disk d in lost's stead.
func moved(groups []api.Group, at, lost, d int) []api.Group {
	l := slices.Clone(groups)
	l[at].Ext = slices.Clone(l[at].Ext)
	for i := range l[at].Ext {
		if l[at].Ext[i].Disk == lost {
			l[at].Ext[i].Disk = d
		}
	}
	return l
}

// moveAll moves as long as there is something to move, holds each move against what is asked of it, and tells how many there were.
func moveAll(t *testing.T, groups []api.Group, rooms []int, lost int) int {
	t.Helper()
	left := slices.Clone(rooms)
	needy := len(plainNeedy(groups, lost))
	for n := range needy {
		at, d, ok := move(t, groups, left, lost)
		if !ok {
			t.Fatalf("%v, %v, %d: no move behind %d of %d", groups, left, lost, n, needy)
		}
		if d < 0 || d >= len(left) || left[d] < 1 || slices.Contains(ownDisks(groups[at]), d) {
			t.Fatalf("Move(%v, %v, %d): %d, %d", groups, left, lost, at, d)
		}
		if len(plainNeedy(groups[:at], lost)) != 0 || len(plainNeedy(groups[at:at+1], lost)) != 1 {
			t.Fatalf("Move(%v, %v, %d): %d is not the first that has it", groups, left, lost, at)
		}
		left[d]--
		groups = moved(groups, at, lost, d)
		if !safe(t, groups, left, lost) {
			t.Fatalf("not Safe behind a move: %v, %v, %d", groups, left, lost)
		}
	}
	if at, d, ok := move(t, groups, left, lost); at != 0 || d != 0 || ok {
		t.Fatalf("Move of no more: %d, %d, %v", at, d, ok)
	}
	return needy
}

// Where it is Safe, Move after Move finds a disk for each group; where it is not, there is no first one.
func TestMoveAfterMove(t *testing.T) {
	r := rand.New(rand.NewSource(11))
	moves := 0
	for range 5000 {
		n := 1 + r.Intn(9)
		groups, rooms := randomGroups(r, r.Intn(16), n), randomRooms(r, n, 1+r.Intn(5))
		lost := r.Intn(n + 1)
		if safe(t, groups, rooms, lost) {
			moves += moveAll(t, groups, rooms, lost)
		} else {
			wantMove(t, groups, rooms, lost, 0, -1)
		}
	}
	if moves < 2000 {
		t.Errorf("%d moves: the lists say little", moves)
	}
}

// Rooms that are just enough: as many ways as there are to fill them, so many are tried.
func TestMoveAfterMoveIntoTheLastRoom(t *testing.T) {
	r := rand.New(rand.NewSource(12))
	for range 1500 {
		n := 2 + r.Intn(9)
		var groups []api.Group
		rooms := make([]int, n)
		for range 1 + r.Intn(30) {
			l := r.Perm(n)
			width := 1 + r.Intn(n-1)
			rooms[l[width]]++ // a disk that this group does not have: so all of them find one
			groups = append(groups, on(append(l[:width:width], n)...))
		}
		wantSafe(t, groups, rooms, n, true)
		if moves := moveAll(t, groups, rooms, n); moves != len(groups) {
			t.Fatalf("%d moves of %d groups", moves, len(groups))
		}
	}
}

func TestMoveAfterMoveOfOneWayAlone(t *testing.T) {
	for _, n := range []int{2, 3, 5, 12, 30} {
		for _, order := range orders(n) {
			groups, rooms := chain(order, n)
			rand.New(rand.NewSource(int64(n))).Shuffle(n, func(i, j int) { groups[i], groups[j] = groups[j], groups[i] })
			if moves := moveAll(t, groups, rooms, n); moves != n {
				t.Fatalf("%d moves of %d groups", moves, n)
			}
		}
	}
}

// An array as it is: groups are made by Pick as long as all stays Safe; whichever disk is lost then, its groups move.
func TestGroupsThatArePickedFindOtherDisks(t *testing.T) {
	r := rand.New(rand.NewSource(13))
	for range 300 {
		rooms := make([]int, 3+r.Intn(10))
		for d := range rooms {
			rooms[d] = 1 + r.Intn(8)
		}
		var groups []api.Group
		for {
			l, ok := pick(t, rooms, 2+r.Intn(len(rooms)-1), nil)
			if !ok {
				break
			}
			next, left := append(slices.Clone(groups), on(l...)), slices.Clone(rooms)
			for _, d := range l {
				left[d]--
			}
			if !allSafe(t, next, left) {
				break
			}
			groups, rooms = next, left
		}
		for lost := range rooms {
			has := len(plainNeedy(groups, lost))
			if moves := moveAll(t, groups, rooms, lost); moves != has || has > spare(t, groups, len(rooms)) {
				t.Fatalf("%v, %v, %d: %d moves of %d groups", groups, rooms, lost, moves, has)
			}
		}
	}
}

// The same calls have the same answers, whatever was asked between.
func TestTheSameCallsHaveTheSameAnswers(t *testing.T) {
	groups, rooms := chain([]int{3, 1, 5, 0, 2, 4}, 6)
	at, d, ok := Move(groups, rooms, 6)
	for lost := range 9 {
		Move(groups[lost%3:], rooms[lost%4:], lost)
		Pick(rooms[lost%5:], lost, allDisks(groups))
		if a, b, again := Move(groups, rooms, 6); a != at || b != d || again != ok {
			t.Fatalf("%d, %d, %v, not %d, %d, %v", a, b, again, at, d, ok)
		}
	}
}

func allDisks(groups []api.Group) []int {
	var l []int
	for _, g := range groups {
		l = append(l, ownDisks(g)...)
	}
	return l
}
