package vmap

import (
	"math"
	"slices"
	"testing"

	"braidwork/api"
)

func TestHolder(t *testing.T) {
	c := of(t, mirror(3, 5), none, raid(3, 87), raid(0, 0), mirror(255, 0))
	for _, row := range []struct {
		w    api.Where
		want int
		is   bool
	}{
		{mirror(3, 5), 0, true},
		{raid(3, 87), 2, true},
		{raid(0, 0), 3, true},
		{mirror(255, 0), 4, true},
		{none, 0, false},
		{raid(3, 5), 0, false},
		{mirror(0, 0), 0, false},
		{mirror(3, 4), 0, false},
		{mirror(5, 3), 0, false},
		{mirror(3, 87), 0, false},
		{mirror(3, 8), 0, false},
		{mirror(3, -1), 0, false},
		{mirror(256, 0), 0, false},
		{raid(3, 88), 0, false},
		{raid(-1, 87), 0, false},
		{api.Where{Group: 3, Slot: 5}, 0, false},
		{api.Where{Group: 3}, 0, false},
		{api.Where{Slot: 5}, 0, false},
		{api.Where{Tier: 3, Group: 3, Slot: 5}, 0, false},
		{api.Where{Tier: -1, Group: 3, Slot: 87}, 0, false},
		{api.Where{Tier: 1<<32 + 1, Group: 3, Slot: 5}, 0, false},
	} {
		if block, ok := c.m.Holder(row.w); block != row.want || ok != row.is {
			t.Errorf("Holder(%v): %d, %v, not %d, %v", row.w, block, ok, row.want, row.is)
		}
	}
	saysEdges(t, c.m, c.p)
}

func TestHolderOfAPlaceThatWasLeft(t *testing.T) {
	left := mirror(3, 5)
	for _, w := range []api.Where{none, mirror(3, 6), raid(3, 5), mirror(4, 5)} {
		c := of(t, none, left)
		c.is(api.OK, to(1, w))
		if block, ok := c.m.Holder(left); block != 0 || ok {
			t.Errorf("Holder, behind %v: %d, %v", w, block, ok)
		}
		c.is(api.OK, to(0, left))
		if block, ok := c.m.Holder(left); block != 0 || !ok {
			t.Errorf("Holder, behind another one came: %d, %v", block, ok)
		}
		c.is(api.OK, to(0, none))
		c.is(api.OK, to(1, left))
		if block, ok := c.m.Holder(left); block != 1 || !ok {
			t.Errorf("Holder, behind it came back: %d, %v", block, ok)
		}
	}
}

func TestIn(t *testing.T) {
	c := of(t, raid(3, 87), mirror(0, 0), mirror(3, 7), none, raid(3, 0), raid(255, 5), mirror(3, 0), raid(0, 9))
	for group, want := range map[int][]int{
		0:           {1, 7}, // and not those that are nowhere, whose Group is 0, too
		3:           {0, 2, 4, 6},
		255:         {5},
		1:           nil,
		2:           nil,
		254:         nil,
		256:         nil,
		-1:          nil,
		math.MinInt: nil,
		math.MaxInt: nil,
		1<<32 + 3:   nil,
	} {
		if l := c.m.In(group); !slices.Equal(l, want) {
			t.Errorf("In(%d): %v, not %v", group, l, want)
		}
	}
}

// Blocks rise by their numbers, whatever slots they are at, and in whatever order they came there.
func TestInRisesByTheBlocks(t *testing.T) {
	for _, order := range [][]int{{0, 1, 2, 3}, {3, 2, 1, 0}, {2, 0, 3, 1}} {
		for _, slots := range [][]int{{0, 1, 2, 3}, {3, 2, 1, 0}, {7, 0, 5, 2}} {
			c := begin(t, 5)
			for _, block := range order {
				w := mirror(9, slots[block])
				if block%2 == 1 {
					w = raid(9, slots[block])
				}
				c.is(api.OK, to(block, w))
			}
			if l := c.m.In(9); !slices.Equal(l, []int{0, 1, 2, 3}) {
				t.Errorf("In, behind %v to %v: %v", order, slots, l)
			}
		}
	}
}

func TestInOfAGroupThatFillsAndIsLeft(t *testing.T) {
	c := begin(t, 96)
	for block := range 88 {
		c.is(api.OK, to(block, raid(255, 87-block)))
	}
	for block := range 8 {
		c.is(api.OK, to(88+block, mirror(255, block)))
	}
	if l := c.m.In(255); len(l) != 96 || !slices.IsSorted(l) {
		t.Errorf("In: %v", l)
	}
	for block := range 96 {
		c.is(api.OK, to(block, none))
	}
	if l := c.m.In(255); len(l) != 0 {
		t.Errorf("In: %v", l)
	}
}

func TestInOfAllGroups(t *testing.T) {
	for group := range 256 {
		c := pair{t, New(3), make(plain, 3)}
		c.set(to(2, mirror(group, 0)), to(0, raid(group, 0)), to(1, mirror((group+1)%256, 0)))
		if l := c.m.In(group); !slices.Equal(l, []int{0, 2}) {
			t.Errorf("In(%d): %v", group, l)
		}
	}
}

// What is answered is the caller's: written over, it changes nothing within, nor what another call has answered.
func TestAnswersAreTheCallers(t *testing.T) {
	c := of(t, mirror(3, 5), none, raid(3, 5), raid(3, 6))
	first, second := c.m.All(), c.m.All()
	for i := range first {
		first[i] = raid(77, i)
	}
	_ = append(first[:0], raid(78, 0))
	if !slices.Equal(second, c.p) {
		t.Errorf("All: %v, not %v, behind another answer was written over", second, c.p)
	}
	c.says()
	saysIn(t, c.m, c.p, 77)
	in, other := c.m.In(3), c.m.In(3)
	for i := range in {
		in[i] = -7
	}
	_ = append(in[:0], 44)
	if !slices.Equal(other, []int{0, 2, 3}) {
		t.Errorf("In: %v, behind another answer was written over", other)
	}
	c.says()
}

// What All has answered stays, whatever is changed behind it.
func TestAnswersStay(t *testing.T) {
	c := of(t, mirror(3, 5), none, raid(3, 5))
	all, in := c.m.All(), c.m.In(3)
	c.is(api.OK, to(0, none), to(1, mirror(3, 5)), to(2, none))
	if !slices.Equal(all, []api.Where{mirror(3, 5), none, raid(3, 5)}) {
		t.Errorf("All: %v", all)
	}
	if !slices.Equal(in, []int{0, 2}) {
		t.Errorf("In: %v", in)
	}
}

// The changes stay their owner's: written over behind Set, they change nothing within.
func TestChangesAreNotKept(t *testing.T) {
	c := begin(t, 3)
	l := []api.Change{to(2, mirror(3, 5)), to(0, raid(3, 5)), to(0, raid(3, 6))}
	c.is(api.OK, l...)
	for i := range l {
		l[i] = to(1, raid(9, i))
	}
	saysEdges(t, c.m, plain{raid(3, 6), none, mirror(3, 5)})
}
