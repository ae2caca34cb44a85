package usage

import (
	"maps"
	"math"
	"slices"
	"testing"

	"braidwork/api"
)

const dead = -1

// plain is a table as the chapter tells it: of each group its slots, each with its block, or dead.
type plain map[int][]int

func (p plain) clone() plain {
	c := plain{}
	for group, slots := range p {
		c[group] = slices.Clone(slots)
	}
	return c
}

func (p plain) open(group, slots int) api.Errno {
	switch {
	case group < 0 || slots < 1 || slots > 4096:
		return api.ErrArg
	case p[group] != nil:
		return api.ErrState
	}
	p[group] = slices.Repeat([]int{dead}, slots)
	return api.OK
}

func (p plain) drop(group int) api.Errno {
	if p[group] == nil {
		return api.ErrNone
	}
	delete(p, group)
	return api.OK
}

func (p plain) put(group, slot, block int) api.Errno {
	switch {
	case p[group] == nil:
		return api.ErrNone
	case slot < 0 || slot >= len(p[group]):
		return api.ErrRange
	case block < 0:
		return api.ErrArg
	case p[group][slot] != dead:
		return api.ErrState
	}
	for _, slots := range p {
		for i := range slots {
			if slots[i] == block {
				slots[i] = dead
			}
		}
	}
	p[group][slot] = block
	return api.OK
}

func (p plain) clear(group, slot int) api.Errno {
	switch {
	case p[group] == nil:
		return api.ErrNone
	case slot < 0 || slot >= len(p[group]):
		return api.ErrRange
	case p[group][slot] == dead:
		return api.ErrState
	}
	p[group][slot] = dead
	return api.OK
}

func (p plain) groups() []int { return slices.Sorted(maps.Keys(p)) }

// blocks are those of a group, in the order of its slots.
func (p plain) blocks(group int) []int {
	return slices.DeleteFunc(slices.Clone(p[group]), func(block int) bool { return block == dead })
}

func (p plain) hole(group int) (int, bool) {
	for slot, block := range p[group] {
		if block == dead {
			return slot, true
		}
	}
	return 0, false
}

// emptiest is the first group, by rising numbers, that has as few live slots as the fewest of the list.
func (p plain) emptiest(list []int) (int, bool) {
	fewest := 4097
	for _, group := range list {
		if p[group] != nil {
			fewest = min(fewest, len(p.blocks(group)))
		}
	}
	for _, group := range p.groups() {
		if slices.Contains(list, group) && len(p.blocks(group)) == fewest {
			return group, true
		}
	}
	return 0, false
}

// strangers are numbers of groups, slots and blocks that there mostly are none of.
var strangers = []int{math.MinInt, math.MinInt + 1, -1 << 40, -4096, -2, -1, 0, 1, 2, 3, 95, 96, 4095, 4096, 4097, 1 << 32, 1 << 40, math.MaxInt - 1, math.MaxInt}

// says holds all that a table tells against a plain one.
func says(t *testing.T, m *Table, p plain) {
	t.Helper()
	if l := m.Groups(); !slices.Equal(l, p.groups()) {
		t.Fatalf("Groups: %v, not %v", l, p.groups())
	}
	at := map[int]place{}
	for group, slots := range p {
		saysGroup(t, m, p, group)
		for slot, block := range slots {
			saysSlot(t, m, group, slot, block)
			at[block] = place{group, slot}
		}
		for _, slot := range strangers {
			if slot < 0 || slot >= len(slots) {
				saysSlot(t, m, group, slot, dead)
			}
		}
	}
	delete(at, dead)
	for block, want := range at {
		if group, slot, ok := m.Find(block); group != want.group || slot != want.slot || !ok {
			t.Fatalf("Find(%d): %d, %d, %v, not %v", block, group, slot, ok, want)
		}
	}
	for _, n := range strangers {
		if p[n] == nil {
			saysGroup(t, m, p, n)
			saysSlot(t, m, n, 0, dead)
		}
		if _, is := at[n]; !is {
			nowhere(t, m, n)
		}
	}
	saysEmptiest(t, m, p, p.groups())
	saysEmptiest(t, m, p, strangers)
	saysEmptiest(t, m, p, nil)
}

// saysGroup holds what is told of a group, be there one or not.
func saysGroup(t *testing.T, m *Table, p plain, group int) {
	t.Helper()
	if n := m.Slots(group); n != len(p[group]) {
		t.Fatalf("Slots(%d): %d, not %d", group, n, len(p[group]))
	}
	blocks := p.blocks(group)
	if n := m.Count(group); n != len(blocks) {
		t.Fatalf("Count(%d): %d, not %d", group, n, len(blocks))
	}
	if l := m.Blocks(group); !slices.Equal(l, blocks) {
		t.Fatalf("Blocks(%d): %v, not %v", group, l, blocks)
	}
	want, is := p.hole(group)
	if slot, ok := m.Hole(group); slot != want || ok != is {
		t.Fatalf("Hole(%d): %d, %v, not %d, %v", group, slot, ok, want, is)
	}
}

// saysSlot holds what is told of a slot against its block, or dead, if it has none, or there is no such slot.
func saysSlot(t *testing.T, m *Table, group, slot, want int) {
	t.Helper()
	block, ok := m.Block(group, slot)
	if ok != (want != dead) || block != max(want, 0) {
		t.Fatalf("Block(%d, %d): %d, %v, not %d", group, slot, block, ok, want)
	}
}

func saysEmptiest(t *testing.T, m *Table, p plain, list []int) {
	t.Helper()
	was := slices.Clone(list)
	want, is := p.emptiest(list)
	if group, ok := m.Emptiest(list); group != want || ok != is {
		t.Fatalf("Emptiest(%v): %d, %v, not %d, %v", list, group, ok, want, is)
	}
	if !slices.Equal(list, was) {
		t.Fatalf("Emptiest has changed its list: %v, not %v", list, was)
	}
}

func nowhere(t *testing.T, m *Table, block int) {
	t.Helper()
	if group, slot, ok := m.Find(block); group != 0 || slot != 0 || ok {
		t.Fatalf("Find(%d): %d, %d, %v, though it is nowhere", block, group, slot, ok)
	}
}

// pair is a table, and a plain one to which the same is done.
type pair struct {
	*testing.T
	m *Table
	p plain
}

// begin is a pair with these groups, of so many slots each.
func begin(t *testing.T, groups map[int]int) pair {
	t.Helper()
	c := pair{t, New(), plain{}}
	for group, slots := range groups {
		c.open(group, slots)
	}
	c.says()
	return c
}

// of is a pair with this content.
func of(t *testing.T, content plain) pair {
	t.Helper()
	c := pair{t, New(), plain{}}
	for group, slots := range content {
		c.open(group, len(slots))
		for slot, block := range slots {
			if block != dead {
				c.put(group, slot, block)
			}
		}
	}
	c.says()
	return c
}

func (c pair) clone() pair { return pair{c.T, c.m.Clone(), c.p.clone()} }

func (c pair) says() {
	c.Helper()
	says(c.T, c.m, c.p)
}

func (c pair) open(group, slots int) {
	c.Helper()
	if e, want := c.m.Open(group, slots), c.p.open(group, slots); e != want {
		c.Fatalf("Open(%d, %d): %v, not %v", group, slots, e, want)
	}
}

func (c pair) drop(group int) {
	c.Helper()
	if e, want := c.m.Drop(group), c.p.drop(group); e != want {
		c.Fatalf("Drop(%d): %v, not %v", group, e, want)
	}
}

func (c pair) put(group, slot, block int) {
	c.Helper()
	if e, want := c.m.Put(group, slot, block), c.p.put(group, slot, block); e != want {
		c.Fatalf("Put(%d, %d, %d): %v, not %v", group, slot, block, e, want)
	}
}

func (c pair) clear(group, slot int) {
	c.Helper()
	if e, want := c.m.Clear(group, slot), c.p.clear(group, slot); e != want {
		c.Fatalf("Clear(%d, %d): %v, not %v", group, slot, e, want)
	}
}

func is(t *testing.T, what string, got, want api.Errno) {
	t.Helper()
	if got != want {
		t.Fatalf("%s: %v, not %v", what, got, want)
	}
}
