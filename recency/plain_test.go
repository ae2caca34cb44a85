package recency

import (
	"math"
	"slices"
	"testing"
)

// plain is a row as the chapter tells it: its blocks, from the oldest to the newest.
type plain []int

func (p plain) without(block int) plain {
	return slices.DeleteFunc(slices.Clone(p), func(b int) bool { return b == block })
}

func (p plain) has(block int) bool { return slices.Contains(p, block) }

func (p plain) oldest(n int) []int {
	if n < 0 {
		return nil
	}
	if n > len(p) {
		return p
	}
	return p[:n]
}

// strangers are numbers at the edges.
var strangers = []int{math.MinInt, math.MinInt + 1, -1 << 40, -1<<32 + 1, -97, -2, -1, 0, 1, 2, 3, 4, 5, 6, 7, 95, 96, 97, 1<<32 + 1, 1 << 40, math.MaxInt - 1, math.MaxInt}

// says holds all that a row tells against a plain one.
func says(t *testing.T, r *Row, p plain) {
	t.Helper()
	if n := r.Len(); n != len(p) {
		t.Fatalf("Len: %d, not %d", n, len(p))
	}
	if l := r.All(); !slices.Equal(l, p) {
		t.Fatalf("All: %v, not %v", l, p)
	}
	saysOldest(t, r, p, len(p)-1, len(p), len(p)+1)
	saysOldest(t, r, p, strangers...)
	saysHas(t, r, p, p...)
	saysHas(t, r, p, strangers...)
}

func saysOldest(t *testing.T, r *Row, p plain, numbers ...int) {
	t.Helper()
	for _, n := range numbers {
		if l := r.Oldest(n); !slices.Equal(l, p.oldest(n)) {
			t.Fatalf("Oldest(%d): %v, not %v", n, l, p.oldest(n))
		}
	}
}

func saysHas(t *testing.T, r *Row, p plain, blocks ...int) {
	t.Helper()
	for _, block := range blocks {
		if is := r.Has(block); is != p.has(block) {
			t.Fatalf("Has(%d): %v of %v", block, is, p)
		}
	}
}

// pair is a row, and a plain one to which the same is done.
type pair struct {
	*testing.T
	r *Row
	p plain
}

// of is a pair in which these blocks were touched in turn.
func of(t *testing.T, blocks ...int) *pair {
	t.Helper()
	c := &pair{t, New(), nil}
	c.says()
	c.touch(blocks...)
	return c
}

func (c *pair) says() {
	c.Helper()
	says(c.T, c.r, c.p)
}

// touch does the same to both; what is told behind it is what is told of the plain one.
func (c *pair) touch(blocks ...int) {
	c.Helper()
	for _, block := range blocks {
		c.r.Touch(block)
		c.p = append(c.p.without(block), block)
		c.says()
	}
}

// drop does the same to both.
func (c *pair) drop(blocks ...int) {
	c.Helper()
	for _, block := range blocks {
		if was := c.r.Drop(block); was != c.p.has(block) {
			c.Fatalf("Drop(%d): %v of %v", block, was, c.p)
		}
		c.p = c.p.without(block)
		c.says()
	}
}

// clone is a pair whose row is a clone.
func (c *pair) clone() *pair {
	c.Helper()
	other := &pair{c.T, c.r.Clone(), slices.Clone(c.p)}
	other.says()
	c.says()
	return other
}

// is holds what all blocks are against what is told here.
func (c *pair) is(want ...int) {
	c.Helper()
	if l := c.r.All(); !slices.Equal(l, want) {
		c.Fatalf("All: %v, not %v", l, want)
	}
}
