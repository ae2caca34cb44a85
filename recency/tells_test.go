package recency

import (
	"slices"
	"testing"
)

// writeOver writes over all of a list, and behind its end, as far as there is room.
func writeOver(l []int) {
	l = l[:cap(l)]
	for i := range l {
		l[i] = -77
	}
}

// What is told is its owner's: written over, it changes nothing within, nor what another call has answered.
func TestAnswersAreTheCallers(t *testing.T) {
	for _, blocks := range [][]int{nil, {5}, {1, 2, 3, 4}, {4, 3, 2, 1, 0, -1, -2, -3, -4}} {
		c := of(t, blocks...)
		for _, ask := range []func() []int{
			c.r.All,
			func() []int { return c.r.Oldest(len(blocks)) },
			func() []int { return c.r.Oldest(len(blocks) + 1) },
			func() []int { return c.r.Oldest(2) },
			func() []int { return c.r.Oldest(1) },
			func() []int { return c.r.Oldest(0) },
			func() []int { return c.r.Oldest(-1) },
		} {
			first, second := ask(), ask()
			all, was := c.r.All(), slices.Clone(second)
			writeOver(first)
			if !slices.Equal(second, was) || !slices.Equal(all, blocks) {
				t.Errorf("%v and %v, behind another answer was written over", second, all)
			}
			c.says()
			if l := ask(); !slices.Equal(l, was) {
				t.Errorf("%v, not %v, behind an answer was written over", l, was)
			}
		}
		c.touch(1, 9)
		c.drop(9, 2)
	}
}

// What was told stays, whatever is done behind it.
func TestAnswersStay(t *testing.T) {
	c := of(t, 1, 2, 3, 4)
	all, two, more, none := c.r.All(), c.r.Oldest(2), c.r.Oldest(9), c.r.Oldest(0)
	clone := c.r.Clone().All()
	stay := func() {
		t.Helper()
		want := []int{1, 2, 3, 4}
		if !slices.Equal(all, want) || !slices.Equal(more, want) || !slices.Equal(clone, want) {
			t.Fatalf("All: %v; Oldest(9): %v; a clone's All: %v", all, more, clone)
		}
		if !slices.Equal(two, want[:2]) || len(none) != 0 {
			t.Fatalf("Oldest(2): %v; Oldest(0): %v", two, none)
		}
	}
	c.touch(1)
	stay()
	c.drop(2)
	stay()
	c.touch(7, 8, 9)
	stay()
	c.drop(1, 3, 4, 7, 8, 9)
	stay()
	c.touch(4, 3)
	stay()
}

// Neither a clone nor its row is changed by what is done to the other.
func TestCloneIsARowOfItsOwn(t *testing.T) {
	for _, blocks := range [][]int{nil, {5}, {1, 2}, {3, 1, 2}, {9, -9, 0, 5, 1}} {
		for _, act := range []func(c *pair){
			func(c *pair) { c.touch(1) },
			func(c *pair) { c.touch(5) },
			func(c *pair) { c.touch(77, -77) },
			func(c *pair) { c.drop(1) },
			func(c *pair) { c.drop(2, 5) },
			func(c *pair) { c.touch(blocks...) },
			func(c *pair) { c.drop(blocks...) },
			func(c *pair) { c.drop(blocks...); c.touch(blocks...) },
			func(c *pair) { c.touch(0, 1, 2); c.drop(0, 2) },
		} {
			c := of(t, blocks...)
			clone := c.clone()
			act(c)
			clone.says()
			act(clone)
			c.says()
			clone.says()
			other := clone.clone()
			act(other)
			clone.touch(3)
			clone.drop(5)
			c.touch(4)
			other.says()
			clone.says()
			c.says()
		}
	}
}

func TestCloneOfARowOfNobody(t *testing.T) {
	c := of(t)
	clone := c.clone()
	c.touch(1, 2)
	clone.is()
	clone.touch(2, 1, 3)
	c.is(1, 2)
	c.drop(1, 2)
	clone.is(2, 1, 3)
	other := c.clone()
	other.touch(8)
	c.is()
	clone.drop(1, 2, 3)
	other.is(8)
}

func TestCloneOfALongRow(t *testing.T) {
	r := New()
	for block := range 1000 {
		r.Touch(block * 7 % 1000)
	}
	want := r.All()
	clones := []*Row{r.Clone(), r.Clone().Clone()}
	for block := range 1000 {
		r.Drop(block)
	}
	for _, clone := range clones {
		says(t, clone, want)
		for block := range 500 {
			clone.Touch(block)
		}
	}
	says(t, r, nil)
	says(t, clones[0], clones[1].All())
}
