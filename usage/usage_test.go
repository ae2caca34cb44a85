package usage

import (
	"math"
	"slices"
	"testing"

	"braidwork/api"
)

func TestTheChaptersExample(t *testing.T) {
	m := New()
	is(t, "Open(3, 4)", m.Open(3, 4), api.OK)
	is(t, "Open(5, 2)", m.Open(5, 2), api.OK)
	is(t, "Put(3, 1, 7)", m.Put(3, 1, 7), api.OK)
	is(t, "Put(5, 0, 8)", m.Put(5, 0, 8), api.OK)
	is(t, "Put(5, 1, 7)", m.Put(5, 1, 7), api.OK)
	if group, slot, ok := m.Find(7); group != 5 || slot != 1 || !ok {
		t.Errorf("Find(7): %d, %d, %v", group, slot, ok)
	}
	if n := m.Count(3); n != 0 {
		t.Errorf("Count(3): %d", n)
	}
	if slot, ok := m.Hole(5); slot != 0 || ok {
		t.Errorf("Hole(5): %d, %v", slot, ok)
	}
	if group, ok := m.Emptiest([]int{5, 3, 9}); group != 3 || !ok {
		t.Errorf("Emptiest: %d, %v", group, ok)
	}
}

func TestMost(t *testing.T) {
	if Most != 4096 {
		t.Errorf("Most: %d", Most)
	}
}

func TestNewHasNoGroups(t *testing.T) {
	c := begin(t, nil)
	for _, n := range strangers {
		c.drop(n)
		c.put(n, 0, 0)
		c.clear(n, 0)
	}
	c.says()
}

func TestOpenOfAllNumbers(t *testing.T) {
	for _, group := range strangers {
		for _, slots := range []int{math.MinInt, -4096, -1, 0, 1, 2, 7, 8, 88, 4095, 4096, 4097, 1 << 32, math.MaxInt} {
			c := begin(t, map[int]int{5: 3})
			c.put(5, 1, 9)
			c.open(group, slots)
			c.says()
		}
	}
}

func TestOpenOfAGroupThatThereIs(t *testing.T) {
	c := of(t, plain{0: {dead, 4}, 3: {7, dead, 8}, math.MaxInt: {9}})
	for group := range c.p {
		for _, slots := range []int{1, 2, 3, 4, 4096} {
			is(t, "Open", c.m.Open(group, slots), api.ErrState)
		}
	}
	c.says()
}

// A wrong argument stands ahead of a group that there is; a group that there is not has no other error.
func TestWhichErrorOfOpenStandsFirst(t *testing.T) {
	c := begin(t, map[int]int{3: 2})
	for _, slots := range []int{math.MinInt, -1, 0, 4097, math.MaxInt} {
		is(t, "Open of one that there is", c.m.Open(3, slots), api.ErrArg)
		is(t, "Open of one that there is not", c.m.Open(4, slots), api.ErrArg)
		is(t, "Open of one below 0", c.m.Open(-1, slots), api.ErrArg)
	}
	is(t, "Open", c.m.Open(3, 1), api.ErrState)
	is(t, "Open", c.m.Open(-1, 1), api.ErrArg)
	c.says()
}

func TestOpenIsAGroupOfDeadSlots(t *testing.T) {
	c := begin(t, map[int]int{0: 1, 1: 4096, 2: 8, 1 << 40: 88})
	if l := c.m.Groups(); !slices.Equal(l, []int{0, 1, 2, 1 << 40}) {
		t.Errorf("Groups: %v", l)
	}
	for group, slots := range map[int]int{0: 1, 1: 4096, 2: 8, 1 << 40: 88} {
		if c.m.Slots(group) != slots || c.m.Count(group) != 0 || len(c.m.Blocks(group)) != 0 {
			t.Errorf("%d: Slots %d, Count %d, Blocks %v", group, c.m.Slots(group), c.m.Count(group), c.m.Blocks(group))
		}
		if slot, ok := c.m.Hole(group); slot != 0 || !ok {
			t.Errorf("Hole(%d): %d, %v", group, slot, ok)
		}
	}
}

func TestDropOfNone(t *testing.T) {
	c := of(t, plain{2: {5, dead, 6}})
	for _, group := range strangers {
		if group != 2 {
			is(t, "Drop", c.m.Drop(group), api.ErrNone)
		}
	}
	c.says()
}

func TestDropOfLiveSlots(t *testing.T) {
	c := of(t, plain{2: {5, dead, 6, 0}, 4: {7, 8}, 0: {dead, dead}})
	c.drop(2)
	for _, block := range []int{5, 6, 0} {
		nowhere(t, c.m, block)
	}
	c.says()
	c.drop(2)
	c.put(2, 1, 9)
	c.clear(2, 0)
	c.says()
	c.drop(0)
	c.drop(4)
	c.says()
}

// What was live in a group that was dropped isn't so in one that is opened anew by its number, and may be put anywhere.
func TestDroppedAndOpenedAnew(t *testing.T) {
	for _, slots := range []int{1, 2, 3, 4, 5, 4096} {
		c := of(t, plain{2: {5, dead, 6, 0}, 4: {7, dead}})
		c.drop(2)
		c.open(2, slots)
		c.says()
		c.put(4, 1, 6)
		c.says()
		c.put(2, 0, 6)
		c.says()
		c.put(2, slots-1, 5)
		c.says()
		c.put(2, slots, 1)
		c.clear(2, slots)
		c.clear(2, 3)
		c.says()
	}
}

func TestPutAndClearOfNoGroup(t *testing.T) {
	c := of(t, plain{7: {5, dead}})
	for _, group := range strangers {
		for _, n := range strangers {
			is(t, "Put", c.m.Put(group, 0, n), api.ErrNone)
			is(t, "Put", c.m.Put(group, n, 5), api.ErrNone)
			is(t, "Clear", c.m.Clear(group, n), api.ErrNone)
		}
	}
	c.says()
}

func TestPutAndClearOfNoSlot(t *testing.T) {
	for _, slots := range []int{1, 2, 8, 4096} {
		c := begin(t, map[int]int{0: slots, 1: 4096})
		c.put(0, 0, 5)
		for _, slot := range append([]int{slots, slots + 1, 1 << 13}, strangers...) {
			if slot >= 0 && slot < slots {
				continue
			}
			for _, block := range strangers {
				is(t, "Put", c.m.Put(0, slot, block), api.ErrRange)
			}
			is(t, "Clear", c.m.Clear(0, slot), api.ErrRange)
		}
		c.says()
	}
}

func TestPutOfAllBlocks(t *testing.T) {
	for _, block := range strangers {
		for _, slot := range []int{0, 1, 2} {
			c := of(t, plain{3: {dead, dead, dead}, 4: {dead}})
			c.put(3, slot, block)
			c.says()
			c.put(4, 0, block)
			c.says()
		}
	}
}

func TestPutOfABlockBelowNone(t *testing.T) {
	c := of(t, plain{3: {dead, 7}})
	for _, block := range []int{math.MinInt, -4096, -2, -1} {
		for slot := range 2 { // a dead one; a live one, whose error stands behind
			is(t, "Put", c.m.Put(3, slot, block), api.ErrArg)
		}
	}
	c.says()
}

func TestPutIntoALiveSlot(t *testing.T) {
	c := of(t, plain{3: {0, 7, dead}, 4: {8}})
	for group, slots := range map[int]int{3: 2, 4: 1} {
		for slot := range slots {
			for _, block := range []int{0, 7, 8, 9, math.MaxInt} { // one that is in the slot, in another one, nowhere
				is(t, "Put", c.m.Put(group, slot, block), api.ErrState)
			}
		}
	}
	c.says()
}

// The slot that had a block is dead behind Put, and may have another one.
func TestPutOfABlockThatIsElsewhere(t *testing.T) {
	for _, to := range []place{{3, 0}, {3, 2}, {4, 1}, {0, 0}} {
		c := of(t, plain{3: {dead, 7, dead, 6}, 4: {8, dead}, 0: {dead}})
		c.put(to.group, to.slot, 7)
		if block, ok := c.m.Block(3, 1); block != 0 || ok {
			t.Errorf("Block of the slot that had it: %d, %v", block, ok)
		}
		if group, slot, ok := c.m.Find(7); group != to.group || slot != to.slot || !ok {
			t.Errorf("Find(7): %d, %d, %v", group, slot, ok)
		}
		c.says()
		is(t, "Clear of the slot that had it", c.m.Clear(3, 1), api.ErrState)
		c.put(3, 1, 9)
		c.says()
		c.clear(to.group, to.slot)
		nowhere(t, c.m, 7)
		c.says()
	}
}

func TestABlockThereAndBack(t *testing.T) {
	c := begin(t, map[int]int{1: 2, 2: 1})
	for range 3 {
		for _, to := range []place{{1, 0}, {1, 1}, {2, 0}, {1, 1}} {
			c.put(to.group, to.slot, 0)
			c.put(to.group, to.slot, 0)
			c.says()
		}
	}
}

// A block that was cleared is nowhere: its former slot is not killed once more when it is put.
func TestPutOfABlockThatWasCleared(t *testing.T) {
	c := of(t, plain{1: {4, dead}, 2: {dead}})
	c.clear(1, 0)
	c.put(1, 0, 5)
	c.put(2, 0, 4)
	c.says()
	if block, ok := c.m.Block(1, 0); block != 5 || !ok {
		t.Errorf("Block(1, 0): %d, %v", block, ok)
	}
}

func TestClear(t *testing.T) {
	for slot := range 4 {
		c := of(t, plain{1: {4, dead, 0, 6}, 2: {5}})
		c.clear(1, slot)
		c.says()
		is(t, "Clear once more", c.m.Clear(1, slot), api.ErrState)
		c.says()
	}
}

func TestClearOfADeadSlot(t *testing.T) {
	c := of(t, plain{1: {dead, 0, dead}, 2: {dead}})
	for _, at := range []place{{1, 0}, {1, 2}, {2, 0}} {
		is(t, "Clear", c.m.Clear(at.group, at.slot), api.ErrState)
	}
	c.says()
}

func TestCloneSaysTheSame(t *testing.T) {
	for _, content := range []plain{{}, {0: {dead}}, {3: {0, dead, 7}, 5: {9, 8}, 1 << 40: {dead, 1}}} {
		c := of(t, content)
		says(t, c.m.Clone(), content)
		says(t, c.m.Clone().Clone(), content)
		c.says()
	}
}

func TestCloneAndTableGoOnByThemselves(t *testing.T) {
	for _, first := range []int{0, 1} {
		c := of(t, plain{3: {0, dead, 7, 6}, 5: {9, dead}, 6: {2}})
		both := []pair{c, c.clone()}
		for _, c := range []pair{both[first], both[1-first]} {
			for _, do := range []func(){
				func() { c.put(3, 1, 7) },
				func() { c.put(5, 1, 0) },
				func() { c.put(5, 1, 1) },
				func() { c.clear(3, 3) },
				func() { c.drop(6) },
				func() { c.open(6, 4) },
				func() { c.open(7, 2) },
				func() { c.put(7, 0, 9) },
				func() { c.drop(5) },
				func() { c.open(5, 1) },
			} {
				do()
				both[0].says()
				both[1].says()
			}
		}
	}
}

func TestTwoTablesHaveNothingToDoWithEachOther(t *testing.T) {
	one, two := begin(t, map[int]int{1: 2}), begin(t, map[int]int{1: 3, 2: 1})
	one.put(1, 0, 5)
	two.says()
	two.put(1, 1, 5)
	one.says()
	one.drop(1)
	two.says()
}
