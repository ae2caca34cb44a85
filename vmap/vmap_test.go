package vmap

import (
	"math"
	"slices"
	"testing"

	"braidwork/api"
)

func TestTheChaptersExample(t *testing.T) {
	m := New(2)
	if e := m.Set([]api.Change{to(0, mirror(3, 5))}); e != api.OK {
		t.Errorf("Set of 0 to Mirror 3 5: %v", e)
	}
	if e := m.Set([]api.Change{to(1, mirror(3, 5))}); e != api.ErrState {
		t.Errorf("Set of 1 to Mirror 3 5: %v", e)
	}
	if e := m.Set([]api.Change{to(0, none), to(1, mirror(3, 5))}); e != api.OK {
		t.Errorf("Set of 0 to nowhere and 1 to Mirror 3 5: %v", e)
	}
	says(t, m, plain{none, mirror(3, 5)})
}

func TestNewOfAllNumbers(t *testing.T) {
	for n, want := range map[int]int{
		math.MinInt: 1, -96: 1, -1: 1, 0: 1,
		1: 1, 2: 2, 3: 3, 47: 47, 95: 95, 96: 96,
		97: 96, 192: 96, 1 << 32: 96, math.MaxInt: 96,
	} {
		saysEdges(t, New(n), make(plain, want))
	}
}

func TestAtOfBlocksThatThereAreAndAreNot(t *testing.T) {
	for _, n := range []int{1, 2, 95, 96} {
		m := New(n)
		first, last := mirror(0, 7), raid(255, 87)
		if e := m.Set([]api.Change{to(0, first)}); e != api.OK {
			t.Fatalf("Set of the first: %v", e)
		}
		if w, e := m.At(0); w != first || e != api.OK {
			t.Errorf("At of the first: %v, %v", w, e)
		}
		if e := m.Set([]api.Change{to(n-1, last)}); e != api.OK {
			t.Fatalf("Set of the last: %v", e)
		}
		if w, e := m.At(n - 1); w != last || e != api.OK {
			t.Errorf("At of the last: %v, %v", w, e)
		}
		for _, block := range []int{math.MinInt, -2, -1, n, n + 1, n + 96, 1 << 32, math.MaxInt} {
			if w, e := m.At(block); w != none || e != api.ErrRange {
				t.Errorf("At(%d) of %d: %v, %v", block, n, w, e)
			}
		}
	}
}

func TestSetOfBlocksThatThereAreNot(t *testing.T) {
	for _, n := range []int{1, 2, 95, 96} {
		c := begin(t, n)
		c.is(api.OK, to(n-1, mirror(3, 5)))
		for _, block := range []int{math.MinInt, -2, -1, n, n + 1, 97, 1 << 32, math.MaxInt} {
			c.is(api.ErrRange, to(block, raid(0, 0)))
			c.is(api.ErrRange, to(block, none))
			c.is(api.ErrRange, to(0, raid(0, 0)), to(block, raid(0, 1)))
			c.is(api.ErrRange, to(block, raid(0, 1)), to(0, raid(0, 0)))
		}
		c.is(api.OK, to(0, none), to(n-1, raid(0, 0)))
	}
}

// Places at the edges, one by one: which are right, and which are not.
func TestWhichPlacesAreRight(t *testing.T) {
	for _, row := range []struct {
		w    api.Where
		want api.Errno
	}{
		{none, api.OK},
		{api.Where{Group: 1}, api.ErrArg},
		{api.Where{Slot: 1}, api.ErrArg},
		{api.Where{Group: -1}, api.ErrArg},
		{api.Where{Slot: -1}, api.ErrArg},
		{api.Where{Group: 255, Slot: 7}, api.ErrArg},
		{api.Where{Tier: -1}, api.ErrArg},
		{api.Where{Tier: 3}, api.ErrArg},
		{api.Where{Tier: math.MinInt}, api.ErrArg},
		{api.Where{Tier: math.MaxInt}, api.ErrArg},
		{api.Where{Tier: 3, Group: 3, Slot: 5}, api.ErrArg},
		{mirror(0, 0), api.OK},
		{mirror(0, 7), api.OK},
		{mirror(255, 0), api.OK},
		{mirror(255, 7), api.OK},
		{mirror(0, -1), api.ErrArg},
		{mirror(0, 8), api.ErrArg},
		{mirror(0, 87), api.ErrArg},
		{mirror(-1, 0), api.ErrArg},
		{mirror(256, 0), api.ErrArg},
		{mirror(0, math.MinInt), api.ErrArg},
		{mirror(math.MaxInt, 0), api.ErrArg},
		{raid(0, 0), api.OK},
		{raid(0, 7), api.OK},
		{raid(0, 8), api.OK},
		{raid(0, 87), api.OK},
		{raid(255, 0), api.OK},
		{raid(255, 87), api.OK},
		{raid(0, -1), api.ErrArg},
		{raid(0, 88), api.ErrArg},
		{raid(-1, 0), api.ErrArg},
		{raid(256, 0), api.ErrArg},
		{raid(0, math.MaxInt), api.ErrArg},
		{raid(math.MinInt, 0), api.ErrArg},
	} {
		for block := range 3 {
			c := of(t, raid(7, 7), none, mirror(8, 0))
			c.is(row.want, to(block, row.w))
			c.is(row.want, to(block, row.w), to(block, raid(3, 3)))
			c.is(row.want, to(block, raid(4, 4)), to(block, row.w))
		}
	}
}

func TestSetOfAllKindsOfPlaces(t *testing.T) {
	for _, w := range edges {
		c := pair{t, New(3), make(plain, 3)}
		c.set(to(1, w))
		c.set(to(2, w))
	}
}

// Each place that is right has room for a block, and is another one than all others.
func TestEachRightPlace(t *testing.T) {
	m := New(1)
	for group := range 256 {
		for slot := range 8 + 88 {
			w := mirror(group, slot)
			if slot >= 8 {
				w = raid(group, slot-8)
			}
			was, _ := m.At(0)
			if e := m.Set([]api.Change{to(0, w)}); e != api.OK {
				t.Fatalf("Set to %v: %v", w, e)
			}
			if block, ok := m.Holder(w); block != 0 || !ok {
				t.Fatalf("Holder(%v): %d, %v", w, block, ok)
			}
			if block, ok := m.Holder(was); block != 0 || ok {
				t.Fatalf("Holder(%v), which was left: %d, %v", was, block, ok)
			}
			if l := m.In(group); !slices.Equal(l, []int{0}) {
				t.Fatalf("In(%d): %v", group, l)
			}
		}
	}
}

func TestSetOfNoChanges(t *testing.T) {
	c := of(t, mirror(3, 5), none, raid(3, 5))
	c.is(api.OK)
	if e := c.m.Set([]api.Change{}); e != api.OK {
		t.Errorf("Set: %v", e)
	}
	c.says()
	begin(t, 1).is(api.OK)
}

func TestSetToWhereTheBlockIs(t *testing.T) {
	c := of(t, mirror(3, 5), none, raid(3, 5))
	for block, w := range c.m.All() {
		c.is(api.OK, to(block, w))
		c.is(api.OK, to(block, w), to(block, w))
	}
}

// Of several changes of a block in one row the last one counts.
func TestABlockThatIsChangedTwice(t *testing.T) {
	c := of(t, mirror(3, 5), none, raid(3, 5))
	c.is(api.OK, to(1, mirror(4, 0)), to(1, mirror(4, 1)))
	if block, ok := c.m.Holder(mirror(4, 0)); block != 0 || ok {
		t.Errorf("Holder of the first place: %d, %v", block, ok)
	}
	if block, ok := c.m.Holder(mirror(4, 1)); block != 1 || !ok {
		t.Errorf("Holder of the second place: %d, %v", block, ok)
	}
	c.is(api.OK, to(1, none), to(1, mirror(4, 0)))
	c.is(api.OK, to(1, mirror(4, 1)), to(1, none))
	c.is(api.OK, to(1, mirror(3, 5)), to(1, raid(0, 0))) // where another block is, but not in the end
	c.is(api.ErrState, to(1, mirror(4, 1)), to(1, mirror(3, 5)))
	c.is(api.OK, to(0, mirror(9, 0)), to(0, mirror(3, 5))) // away, and back
	c.is(api.OK, to(0, mirror(9, 0)), to(1, mirror(9, 1)), to(0, mirror(9, 2)), to(1, mirror(9, 0)))
}

func TestTwoBlocksThatChangePlaces(t *testing.T) {
	x, y := mirror(3, 5), raid(4, 87)
	for _, row := range [][]api.Change{
		{to(0, y), to(2, x)},
		{to(2, x), to(0, y)},
	} {
		c := of(t, x, none, y)
		c.is(api.OK, row...)
		if l := c.m.All(); !slices.Equal(l, []api.Where{y, none, x}) {
			t.Errorf("All: %v", l)
		}
	}
	c := of(t, x, none, y)
	c.is(api.ErrState, to(0, y))
	c.is(api.ErrState, to(2, x))
	c.is(api.OK, to(0, mirror(0, 0)))
	c.is(api.OK, to(2, x))
	c.is(api.OK, to(0, y))
}

func TestThreeBlocksThatGoRound(t *testing.T) {
	all := []api.Where{mirror(3, 5), mirror(3, 6), raid(3, 5)}
	for _, order := range [][]int{{0, 1, 2}, {0, 2, 1}, {1, 0, 2}, {1, 2, 0}, {2, 0, 1}, {2, 1, 0}} {
		c := of(t, all...)
		var row []api.Change
		for _, block := range order {
			row = append(row, to(block, all[(block+1)%3]))
		}
		for i := range 3 {
			c.is(api.ErrState, row[i])
			c.is(api.ErrState, row[i], row[(i+1)%3])
		}
		c.is(api.OK, row...)
	}
}

func TestAPlaceThatIsFreedAndTaken(t *testing.T) {
	for _, away := range []api.Where{none, mirror(3, 6), raid(3, 5)} {
		for _, row := range [][]api.Change{
			{to(0, away), to(1, mirror(3, 5))},
			{to(1, mirror(3, 5)), to(0, away)},
		} {
			c := of(t, mirror(3, 5), none, raid(4, 4))
			c.is(api.OK, row...)
			if block, ok := c.m.Holder(mirror(3, 5)); block != 1 || !ok {
				t.Errorf("Holder behind %v: %d, %v", row, block, ok)
			}
		}
	}
}

// What counts is where blocks are behind the last change, and not in between.
func TestTwoAtOnePlaceInBetween(t *testing.T) {
	c := of(t, none, none, mirror(3, 5), none)
	c.is(api.OK, to(0, raid(1, 1)), to(1, raid(1, 1)), to(0, raid(1, 2)))
	c.is(api.OK, to(0, none), to(1, none))
	c.is(api.OK, to(0, mirror(3, 5)), to(1, mirror(3, 5)), to(3, mirror(3, 5)), to(0, none), to(1, mirror(3, 6)), to(2, none))
	c.is(api.ErrState, to(0, raid(1, 1)), to(1, raid(1, 1)), to(0, raid(1, 2)), to(0, raid(1, 1)))
	c.is(api.ErrState, to(1, mirror(3, 5)))
}

func TestTwoAtOnePlaceInTheEnd(t *testing.T) {
	for _, w := range []api.Where{mirror(0, 0), mirror(255, 7), raid(0, 0), raid(255, 87)} {
		c := of(t, none, none, w, none)
		c.is(api.ErrState, to(0, w))
		c.is(api.ErrState, to(3, w))
		c.is(api.ErrState, to(2, none), to(0, w), to(2, w))
		c.is(api.OK, to(2, none))
		c.is(api.ErrState, to(0, w), to(1, w))
		c.is(api.ErrState, to(3, w), to(0, w))
		c.is(api.OK, to(1, w))
	}
}

func TestAllBlocksAtNowhere(t *testing.T) {
	c := of(t, mirror(3, 5), raid(3, 5), raid(4, 0), mirror(4, 0))
	c.is(api.OK, to(0, none), to(1, none))
	c.is(api.OK, to(2, none))
	c.is(api.OK, to(3, none), to(0, none), to(3, none))
	saysEdges(t, c.m, plain{none, none, none, none})
}

// One slot of one group is two places, one of each tier.
func TestOneSlotOfBothTiers(t *testing.T) {
	c := of(t, mirror(3, 5), raid(3, 5), mirror(5, 3), raid(5, 3), mirror(0, 0), raid(0, 0))
	c.is(api.ErrState, to(0, raid(3, 5)))
	c.is(api.OK, to(0, raid(3, 5)), to(1, mirror(3, 5)))
}

// A block that there is not stands ahead of a place that is not right, and that ahead of two at one place, wherever in the row they stand.
func TestWhichErrorOfSetStandsFirst(t *testing.T) {
	taken, twice := to(1, mirror(3, 5)), to(2, raid(9, 9))
	for _, block := range []int{math.MinInt, -1, 4, 96, math.MaxInt} {
		for _, w := range []api.Where{mirror(3, 8), raid(256, 0), {Tier: 3}, {Slot: 1}, {Group: 1}, {Tier: -1}} {
			c := of(t, mirror(3, 5), none, none, raid(9, 9))
			range0, arg := to(block, mirror(3, 5)), to(2, w)
			c.is(api.ErrRange, to(block, w))
			c.is(api.ErrRange, range0, arg)
			c.is(api.ErrRange, arg, range0)
			c.is(api.ErrRange, taken, arg, range0)
			c.is(api.ErrRange, taken, twice, range0)
			c.is(api.ErrRange, range0, taken, twice)
			c.is(api.ErrRange, arg, arg, arg, taken, to(block, none))
			c.is(api.ErrArg, taken, arg)
			c.is(api.ErrArg, arg, taken)
			c.is(api.ErrArg, taken, twice, to(0, w))
			c.is(api.ErrArg, to(0, w), to(0, none)) // the change is wrong, though another one comes behind it
			c.is(api.ErrState, taken, twice)
			c.is(api.OK, taken, to(0, none))
		}
	}
}

// Behind a call that was refused all is told as ahead of it, and what comes next goes on from there.
func TestWhatIsRefusedChangesNothing(t *testing.T) {
	c := of(t, mirror(3, 5), none, raid(3, 5), raid(3, 87))
	saysEdges(t, c.m, c.p)
	for _, row := range [][]api.Change{
		{to(0, none), to(1, raid(7, 0)), to(4, none)},
		{to(0, none), to(1, raid(7, 0)), to(-1, mirror(0, 0))},
		{to(0, none), to(1, raid(7, 0)), to(2, mirror(0, 8))},
		{to(0, none), to(1, raid(7, 0)), to(2, api.Where{Group: 3})},
		{to(0, none), to(1, raid(7, 0)), to(2, raid(3, 87))},
		{to(0, none), to(1, raid(7, 0)), to(2, raid(7, 0))},
	} {
		if e := c.set(row...); e == api.OK {
			t.Fatalf("Set(%v): %v", row, e)
		}
		saysEdges(t, c.m, plain{mirror(3, 5), none, raid(3, 5), raid(3, 87)})
	}
	c.is(api.ErrState, to(1, mirror(3, 5)))
	c.is(api.OK, to(1, raid(7, 0)))
	c.is(api.OK, to(0, none))
	c.is(api.OK, to(2, mirror(3, 5)))
}

func TestSetOfAMillionChanges(t *testing.T) {
	c := pair{t, New(96), make(plain, 96)}
	l := make([]api.Change, 1000000)
	for i := range l {
		l[i] = to(i%96, raid(i%256, i%88))
	}
	for block := range 96 {
		l = append(l, to(block, mirror(block/8, block%8)))
	}
	c.is(api.OK, l...)
	c.is(api.ErrState, append(l, to(95, mirror(0, 0)))...)
	c.is(api.ErrArg, append(l, to(95, mirror(0, 8)))...)
	c.is(api.ErrRange, append(l, to(95, mirror(0, 8)), to(96, none))...)
}

// Each block at a place of its own, and each of these given to the next one, in one row.
func TestAllBlocksChangePlaces(t *testing.T) {
	for _, n := range []int{1, 2, 95, 96} {
		c := begin(t, n)
		var first, next []api.Change
		for block := range n {
			first = append(first, to(block, raid(200, block%88)))
			if block >= 88 {
				first[block].To = mirror(200, block%88)
			}
		}
		for block := range n {
			next = append(next, to(block, first[(block+1)%n].To))
		}
		c.is(api.OK, first...)
		c.is(api.OK, next...)
		slices.Reverse(first)
		c.is(api.OK, first...)
	}
}
