package group

import (
	"math"
	"math/rand"
	"testing"

	"braidwork/api"
)

func wantSpare(t *testing.T, groups []api.Group, disks, want int) {
	t.Helper()
	if n := spare(t, groups, disks); n != want {
		t.Errorf("Spare(%v, %d): %d, not %d", groups, disks, n, want)
	}
}

func TestSpareIsTheMostThatOneDiskHas(t *testing.T) {
	groups := []api.Group{on(0, 1, 2), on(1, 2), on(2, 3, 5), on(5, 2)}
	wantSpare(t, groups, 6, 4)
	wantSpare(t, groups, 12, 4)
	wantSpare(t, groups[:3], 6, 3)
	wantSpare(t, groups[:1], 6, 1)
	wantSpare(t, groups[:2], 6, 2)
	wantSpare(t, []api.Group{on(0, 1), on(2, 3)}, 4, 1)
}

// Disks that are not below the number do not count, the last one that is does.
func TestSpareOfSomeOfTheDisks(t *testing.T) {
	groups := []api.Group{on(0, 1, 2), on(1, 2), on(2, 3, 5), on(5, 2)}
	for disks, want := range []int{0, 1, 2, 4, 4, 4, 4} {
		wantSpare(t, groups, disks, want)
	}
	last := []api.Group{on(0, 3), on(1, 3), on(2, 3)}
	wantSpare(t, last, 3, 1)
	wantSpare(t, last, 4, 3)
	wantSpare(t, last, math.MaxInt, 3)
}

func TestSpareOfNoGroups(t *testing.T) {
	for _, disks := range []int{math.MinInt, -1, 0, 1, 12, math.MaxInt} {
		wantSpare(t, nil, disks, 0)
		wantSpare(t, []api.Group{}, disks, 0)
		wantSpare(t, []api.Group{{}, {ID: 3, Kind: api.Mirror}}, disks, 0)
	}
}

func TestSpareOfNoDisks(t *testing.T) {
	groups := []api.Group{on(0, 1, 2), on(1, 2), on(-1, -2), on(-1)}
	for _, disks := range []int{math.MinInt, -1 << 40, -2, -1, 0} {
		wantSpare(t, groups, disks, 0)
	}
}

func TestSpareOfExtentsOnNoDisk(t *testing.T) {
	groups := []api.Group{on(strangers...), on(0, -1), on(strangers...), on(-1, 4), on(4, -1)}
	wantSpare(t, groups, 4, 1)
	wantSpare(t, groups, 5, 2)
	wantSpare(t, groups[:1], 12, 0)
	wantSpare(t, []api.Group{on(math.MaxInt), on(math.MaxInt)}, math.MaxInt, 0)
	wantSpare(t, []api.Group{on(math.MaxInt - 1), on(math.MaxInt - 1)}, math.MaxInt, 2)
}

// It is extents that are counted: a group that has two on one disk has two there.
func TestSpareCountsExtents(t *testing.T) {
	wantSpare(t, []api.Group{on(1, 1, 1, 0), on(1)}, 2, 4)
	wantSpare(t, []api.Group{on(1, 1, 0), on(0, 2), on(0)}, 3, 3)
}

// Groups are of any kind and number, and extents begin anywhere.
func TestSpareAsksForDisksAlone(t *testing.T) {
	x := api.Extent{Disk: 2, At: 3}
	groups := []api.Group{{Ext: []api.Extent{x}}, {ID: -4, Kind: 9, Ext: []api.Extent{x}}, {ID: -4, Kind: api.Mirror, Ext: []api.Extent{{Disk: 2, At: math.MinInt}}}}
	wantSpare(t, groups, 3, 3)
}

func TestSpareOfManyLists(t *testing.T) {
	r := rand.New(rand.NewSource(8))
	for range 3000 {
		disks := r.Intn(14) - 1
		var groups []api.Group
		have := make([]int, max(disks, 0))
		want := 0
		for range r.Intn(20) {
			var l []int
			for range r.Intn(6) {
				d := r.Intn(16) - 2
				l = append(l, d)
				if d >= 0 && d < disks {
					have[d]++
					want = max(want, have[d])
				}
			}
			groups = append(groups, on(l...))
		}
		wantSpare(t, groups, disks, want)
	}
}
