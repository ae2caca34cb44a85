package usage

import (
	"math/rand"
	"slices"
	"testing"
)

// turned tells that Block and Find are one another's turned round, and that Count tells how many Blocks there are.
func turned(t *testing.T, m *Table, blocks int) {
	t.Helper()
	live := 0
	for _, group := range m.Groups() {
		of := m.Blocks(group)
		if n := m.Count(group); n != len(of) {
			t.Fatalf("Count(%d): %d, of %v", group, n, of)
		}
		live += len(of)
		for slot := range m.Slots(group) {
			block, ok := m.Block(group, slot)
			if !ok {
				continue
			}
			if g, s, ok := m.Find(block); g != group || s != slot || !ok {
				t.Fatalf("Find(%d): %d, %d, %v, not %d, %d", block, g, s, ok, group, slot)
			}
			if of[0] != block {
				t.Fatalf("Blocks(%d) has %d, where %d is", group, of[0], block)
			}
			of = of[1:]
		}
	}
	found := 0
	for block := range blocks {
		group, slot, ok := m.Find(block)
		if !ok {
			continue
		}
		found++
		if b, ok := m.Block(group, slot); b != block || !ok {
			t.Fatalf("Block(%d, %d): %d, %v, not %d", group, slot, b, ok, block)
		}
	}
	if found != live {
		t.Fatalf("%d blocks are found, %d slots are live", found, live)
	}
}

// step does one call, chosen by r, to a table and to a plain one.
func step(c pair, r *rand.Rand) {
	c.Helper()
	group, slot, block := r.Intn(6)-1, r.Intn(9)-1, r.Intn(21)-1
	switch r.Intn(12) {
	case 0, 1:
		c.open(group, slot)
	case 2:
		if r.Intn(3) == 0 {
			c.drop(group)
		}
	case 3, 4:
		c.clear(group, slot)
	case 5:
		if hole, ok := c.m.Hole(group); ok {
			c.put(group, hole, block)
		}
	default:
		c.put(group, slot, block)
	}
}

// A table and a plain one are done the same to, in a row that is the same in each run; a clone goes on in the table's stead now and then, and what it was made of stays.
func TestManyCalls(t *testing.T) {
	for seed := range int64(60) {
		r := rand.New(rand.NewSource(seed))
		c := begin(t, map[int]int{0: 5, 2: 7})
		left := c.clone()
		for i := range 400 {
			step(c, r)
			c.says()
			turned(t, c.m, 20)
			list := make([]int, r.Intn(5))
			for i := range list {
				list[i] = r.Intn(7) - 1
			}
			saysEmptiest(t, c.m, c.p, list)
			if i%50 == 49 {
				left.says()
				left = c
				c = c.clone()
			}
		}
	}
}

// Blocks go through all slots of all groups, again and again: each is in one slot, and the one that it was in is dead.
func TestABlockIsInOneSlot(t *testing.T) {
	c := begin(t, map[int]int{0: 3, 1: 8, 2: 1, 9: 5})
	for round := range 6 {
		for _, group := range c.p.groups() {
			for slot := range c.p[group] {
				c.put(group, slot, (slot+round)%4)
				turned(t, c.m, 4)
			}
		}
		c.says()
	}
}

// The same calls have the same answers, also where groups were opened and blocks were put in another order.
func TestTheSameCallsHaveTheSameAnswers(t *testing.T) {
	run := func(order []int) []int {
		m := New()
		for _, n := range order {
			m.Open(n, 16)
		}
		for _, n := range order {
			m.Put(n, 7-n, n)
			m.Put(n%3, 8+n, 100+n)
		}
		var l []int
		for _, group := range m.Clone().Groups() {
			hole, _ := m.Hole(group)
			l = append(append(l, group, hole, m.Count(group)), m.Blocks(group)...)
		}
		group, _ := m.Emptiest(order)
		return append(l, group)
	}
	want := run([]int{0, 1, 2, 3, 4, 5, 6, 7})
	for range 20 {
		if got := run([]int{7, 2, 5, 0, 6, 1, 4, 3}); !slices.Equal(got, want) {
			t.Fatalf("%v, not %v", got, want)
		}
	}
}
