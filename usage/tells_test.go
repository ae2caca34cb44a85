package usage

import (
	"math"
	"slices"
	"testing"
)

func TestBlockOfLiveAndDeadSlots(t *testing.T) {
	c := of(t, plain{3: {dead, 0, 9, dead, 1 << 40}})
	for slot, want := range []int{dead, 0, 9, dead, 1 << 40, dead} {
		saysSlot(t, c.m, 3, slot, want)
	}
	for _, n := range strangers {
		if n < 0 || n > 4 {
			saysSlot(t, c.m, 3, n, dead)
			saysSlot(t, c.m, n, 1, dead)
		}
	}
}

func TestFindOfBlocksThatAreAndAreNot(t *testing.T) {
	c := of(t, plain{0: {9, 0}, 3: {math.MaxInt}})
	for block, want := range map[int]place{9: {0, 0}, 0: {0, 1}, math.MaxInt: {3, 0}} {
		if group, slot, ok := c.m.Find(block); group != want.group || slot != want.slot || !ok {
			t.Errorf("Find(%d): %d, %d, %v", block, group, slot, ok)
		}
	}
	for _, block := range []int{math.MinInt, -1, 1, 2, 3, 8, 10, math.MaxInt - 1} {
		nowhere(t, c.m, block)
	}
}

func TestGroupsRise(t *testing.T) {
	for _, groups := range [][]int{nil, {0}, {7}, {math.MaxInt, 0}, {5, 3, 11, 0, 31, 7, 1 << 40, 2, 10, 8}} {
		m := New()
		for i, group := range groups {
			m.Open(group, i+1)
			if l := m.Groups(); !slices.Equal(l, slices.Sorted(slices.Values(groups[:i+1]))) {
				t.Errorf("Groups: %v of %v", l, groups[:i+1])
			}
		}
		for i, group := range groups {
			m.Drop(group)
			if l := m.Groups(); !slices.Equal(l, slices.Sorted(slices.Values(groups[i+1:]))) {
				t.Errorf("Groups: %v of %v", l, groups[i+1:])
			}
		}
	}
}

func TestSlotsAndCountWhileAGroupFills(t *testing.T) {
	for _, slots := range []int{1, 2, 8, 4096} {
		c := begin(t, map[int]int{6: slots})
		for slot := range slots {
			c.put(6, slot, 3*slot)
			if c.m.Slots(6) != slots || c.m.Count(6) != slot+1 {
				t.Fatalf("Slots %d, Count %d, of %d and %d", c.m.Slots(6), c.m.Count(6), slots, slot+1)
			}
		}
		c.says()
		for slot := range slots {
			c.clear(6, slot)
			if c.m.Slots(6) != slots || c.m.Count(6) != slots-slot-1 {
				t.Fatalf("Slots %d, Count %d, of %d and %d", c.m.Slots(6), c.m.Count(6), slots, slots-slot-1)
			}
		}
		c.says()
	}
}

func TestHole(t *testing.T) {
	for _, row := range []struct {
		slots []int
		want  int
		is    bool
	}{
		{[]int{dead}, 0, true},
		{[]int{4}, 0, false},
		{[]int{dead, dead, dead}, 0, true},
		{[]int{4, 5, 6}, 0, false},
		{[]int{0, 1, 2}, 0, false},
		{[]int{dead, 5, 6}, 0, true},
		{[]int{4, dead, 6}, 1, true},
		{[]int{4, 5, dead}, 2, true},
		{[]int{4, dead, 6, dead, dead, 7}, 1, true},
	} {
		c := of(t, plain{3: row.slots, 4: {dead}, 2: {1 << 40}})
		if slot, ok := c.m.Hole(3); slot != row.want || ok != row.is {
			t.Errorf("Hole of %v: %d, %v", row.slots, slot, ok)
		}
	}
}

func TestHoleOfTheLastSlotOfMost(t *testing.T) {
	c := begin(t, map[int]int{0: Most})
	for slot := range Most {
		if hole, ok := c.m.Hole(0); hole != slot || !ok {
			t.Fatalf("Hole: %d, %v, not %d", hole, ok, slot)
		}
		c.put(0, slot, slot)
	}
	if hole, ok := c.m.Hole(0); hole != 0 || ok {
		t.Errorf("Hole of a full group: %d, %v", hole, ok)
	}
	c.clear(0, Most-1)
	if hole, ok := c.m.Hole(0); hole != Most-1 || !ok {
		t.Errorf("Hole: %d, %v", hole, ok)
	}
}

func TestBlocksStandInTheOrderOfTheSlots(t *testing.T) {
	c := begin(t, map[int]int{3: 6, 4: 1})
	for _, to := range []struct{ slot, block int }{{5, 1}, {0, 9}, {3, 0}, {1, 7}} {
		c.put(3, to.slot, to.block)
	}
	c.put(4, 0, 8)
	if l := c.m.Blocks(3); !slices.Equal(l, []int{9, 7, 0, 1}) {
		t.Errorf("Blocks: %v", l)
	}
	c.put(3, 4, 9)
	if l := c.m.Blocks(3); !slices.Equal(l, []int{7, 0, 9, 1}) {
		t.Errorf("Blocks: %v", l)
	}
}

func TestEmptiestOfLists(t *testing.T) {
	c := of(t, plain{
		0: {1, 2, dead},
		2: {3, dead},
		3: {4, dead, dead, dead},
		5: {5, 6, 7},
		8: {dead},
		9: {dead, dead},
		7: {8},
	})
	for _, row := range []struct {
		list []int
		want int
		is   bool
	}{
		{nil, 0, false},
		{[]int{}, 0, false},
		{[]int{1}, 0, false},
		{[]int{-1, 4, 6, math.MinInt, math.MaxInt, 10}, 0, false},
		{[]int{0}, 0, true},
		{[]int{5}, 5, true},
		{[]int{5, 5}, 5, true},
		{[]int{5, 0}, 0, true},
		{[]int{0, 5}, 0, true},
		{[]int{0, 5, 0}, 0, true},
		{[]int{5, 3}, 3, true},
		{[]int{2, 3, 7}, 2, true},
		{[]int{7, 3, 2}, 2, true},
		{[]int{3, 7, 3}, 3, true},
		{[]int{7, 5, 3}, 3, true},
		{[]int{0, 2, 3, 5, 7, 8, 9}, 8, true},
		{[]int{9, 8}, 8, true},
		{[]int{8, 9}, 8, true},
		{[]int{9, 5, 9}, 9, true},
		{[]int{1, 5, 4, 0, -1}, 0, true},
		{[]int{1, 5, 4, -1, 6}, 5, true},
	} {
		if group, ok := c.m.Emptiest(row.list); group != row.want || ok != row.is {
			t.Errorf("Emptiest(%v): %d, %v, not %d, %v", row.list, group, ok, row.want, row.is)
		}
		saysEmptiest(t, c.m, c.p, row.list)
	}
}

// All lists of four of some groups, of which one is none.
func TestEmptiestOfAllLists(t *testing.T) {
	c := of(t, plain{0: {1, dead}, 1: {dead, dead}, 2: {2, 3}, 4: {dead}, 5: {4}})
	for n := range 7 * 7 * 7 * 7 {
		saysEmptiest(t, c.m, c.p, []int{n % 7, n / 7 % 7, n / 49 % 7, n / 343})
	}
}

// A group of which something was cleared, dropped, or put elsewhere is held by what is live in it now.
func TestEmptiestBehindEachChange(t *testing.T) {
	c := of(t, plain{1: {1, 2, 3}, 2: {4, 5, dead}, 3: {6, 7, dead}})
	all := []int{3, 2, 1}
	for _, step := range []struct {
		do   func()
		want int
	}{
		{func() {}, 2},
		{func() { c.put(2, 2, 1) }, 1},
		{func() { c.clear(3, 0) }, 3},
		{func() { c.put(3, 0, 2) }, 1},
		{func() { c.drop(1) }, 3},
		{func() { c.open(1, 1) }, 1},
		{func() { c.put(1, 0, 6) }, 1},
		{func() { c.put(3, 2, 6) }, 1},
		{func() { c.drop(1); c.drop(2) }, 3},
	} {
		step.do()
		if group, ok := c.m.Emptiest(all); group != step.want || !ok {
			t.Fatalf("Emptiest: %d, %v, not %d", group, ok, step.want)
		}
		c.says()
	}
}

func TestEmptiestOfAMillion(t *testing.T) {
	c := begin(t, map[int]int{3: Most, 4: Most})
	for slot := range Most {
		c.m.Put(3, slot, slot)
		c.m.Put(4, slot, Most+slot)
	}
	c.m.Clear(4, 7)
	list := slices.Repeat([]int{3}, 1000000)
	list[999999] = 4
	if group, ok := c.m.Emptiest(list); group != 4 || !ok {
		t.Errorf("Emptiest: %d, %v", group, ok)
	}
}

// What is answered is the caller's: written over, it changes nothing within, nor what another call has answered.
func TestAnswersAreTheCallers(t *testing.T) {
	c := of(t, plain{3: {9, dead, 7}, 5: {0}, 6: {dead}})
	for _, tell := range []func() []int{
		c.m.Groups,
		func() []int { return c.m.Blocks(3) },
	} {
		first, second := tell(), tell()
		want := slices.Clone(first)
		for i := range first {
			first[i] = -7
		}
		_ = append(first[:0], 44, 45)
		if !slices.Equal(second, want) {
			t.Errorf("%v, not %v, behind another answer was written over", second, want)
		}
		c.says()
	}
}
