package group

import (
	"math"
	"slices"
	"testing"

	"braidwork/api"
)

// on is a group with one extent on each of these disks.
func on(disks ...int) api.Group {
	g := api.Group{ID: 7, Kind: api.Raid}
	for i, d := range disks {
		g.Ext = append(g.Ext, api.Extent{Disk: d, At: api.Base + i*api.Run})
	}
	return g
}

// ownDisks is the disks that a group has, in the order of its extents.
func ownDisks(g api.Group) []int {
	var l []int
	for _, e := range g.Ext {
		l = append(l, e.Disk)
	}
	return l
}

// strangers are numbers that no list of these tests has a disk of.
var strangers = []int{math.MinInt, math.MinInt + 1, -1 << 40, -2, -1, 1 << 20, 1 << 40, math.MaxInt - 1, math.MaxInt}

// lentNumbers is l with something behind it, to tell whether a call writes there.
func lentNumbers(l []int) []int {
	return append(slices.Clone(l), -71, -72, -73)[:len(l)]
}

// lentGroups is l likewise, with extents of its own.
func lentGroups(l []api.Group) []api.Group {
	var c []api.Group
	for _, g := range l {
		g.Ext = append(slices.Clone(g.Ext), api.Extent{Disk: -71}, api.Extent{Disk: -72})[:len(g.Ext)]
		c = append(c, g)
	}
	return append(c, on(-71), on(-72))[:len(l)]
}

func numbersStayed(t *testing.T, lent, were []int) {
	t.Helper()
	if !slices.Equal(lent[:len(were)+3], append(slices.Clone(were), -71, -72, -73)) {
		t.Fatalf("%v was handed in, and is %v", were, lent[:len(were)+3])
	}
}

func groupsStayed(t *testing.T, lent, were []api.Group) {
	t.Helper()
	for i, g := range were {
		x := lent[i]
		if x.ID != g.ID || x.Kind != g.Kind || !slices.Equal(x.Ext[:len(g.Ext)+2], append(slices.Clone(g.Ext), api.Extent{Disk: -71}, api.Extent{Disk: -72})) {
			t.Fatalf("the group %v was handed in, and is %v", g, x)
		}
	}
	behind := lent[len(were) : len(were)+2]
	if !slices.Equal(ownDisks(behind[0]), []int{-71}) || !slices.Equal(ownDisks(behind[1]), []int{-72}) {
		t.Fatalf("behind the groups stands %v", behind)
	}
}

// pick is Pick, twice, of lists that are to stay as they were: the first answer is written over ahead of the second call.
func pick(t *testing.T, rooms []int, width int, banned []int) ([]int, bool) {
	t.Helper()
	r, b := lentNumbers(rooms), lentNumbers(banned)
	first, ok := Pick(r, width, b)
	l := slices.Clone(first)
	for i := range first {
		first[i] = -7
	}
	_ = append(first, -8, -9)
	second, again := Pick(r, width, b)
	if again != ok || !slices.Equal(second, l) {
		t.Fatalf("Pick(%v, %d, %v): %v, %v, and then %v, %v", rooms, width, banned, l, ok, second, again)
	}
	numbersStayed(t, r, rooms)
	numbersStayed(t, b, banned)
	return l, ok
}

func spare(t *testing.T, groups []api.Group, disks int) int {
	t.Helper()
	l := lentGroups(groups)
	n := Spare(l, disks)
	if again := Spare(l, disks); again != n {
		t.Fatalf("Spare(%v, %d): %d, and then %d", groups, disks, n, again)
	}
	groupsStayed(t, l, groups)
	return n
}

func safe(t *testing.T, groups []api.Group, rooms []int, lost int) bool {
	t.Helper()
	l, r := lentGroups(groups), lentNumbers(rooms)
	ok := Safe(l, r, lost)
	if again := Safe(l, r, lost); again != ok {
		t.Fatalf("Safe(%v, %v, %d): %v, and then %v", groups, rooms, lost, ok, again)
	}
	groupsStayed(t, l, groups)
	numbersStayed(t, r, rooms)
	return ok
}

func allSafe(t *testing.T, groups []api.Group, rooms []int) bool {
	t.Helper()
	l, r := lentGroups(groups), lentNumbers(rooms)
	ok := AllSafe(l, r)
	if again := AllSafe(l, r); again != ok {
		t.Fatalf("AllSafe(%v, %v): %v, and then %v", groups, rooms, ok, again)
	}
	groupsStayed(t, l, groups)
	numbersStayed(t, r, rooms)
	return ok
}

func move(t *testing.T, groups []api.Group, rooms []int, lost int) (int, int, bool) {
	t.Helper()
	l, r := lentGroups(groups), lentNumbers(rooms)
	at, d, ok := Move(l, r, lost)
	if at2, d2, ok2 := Move(l, r, lost); at2 != at || d2 != d || ok2 != ok {
		t.Fatalf("Move(%v, %v, %d): %d, %d, %v, and then %d, %d, %v", groups, rooms, lost, at, d, ok, at2, d2, ok2)
	}
	groupsStayed(t, l, groups)
	numbersStayed(t, r, rooms)
	return at, d, ok
}

// wantSafe holds Safe against the answer that there is to be.
func wantSafe(t *testing.T, groups []api.Group, rooms []int, lost int, want bool) {
	t.Helper()
	if ok := safe(t, groups, rooms, lost); ok != want {
		t.Errorf("Safe(%v, %v, %d): %v", groups, rooms, lost, ok)
	}
}

// wantMove holds Move likewise; a disk below 0: there is to be none.
func wantMove(t *testing.T, groups []api.Group, rooms []int, lost, at, d int) {
	t.Helper()
	want := d >= 0
	if !want {
		at, d = 0, 0
	}
	if a, b, ok := move(t, groups, rooms, lost); a != at || b != d || ok != want {
		t.Errorf("Move(%v, %v, %d): %d, %d, %v, not %d, %d, %v", groups, rooms, lost, a, b, ok, at, d, want)
	}
}
