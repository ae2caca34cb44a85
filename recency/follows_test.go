package recency

import (
	"math/rand"
	"slices"
	"testing"
)

// block is one of few, so that many are there already; now and then one at an edge.
func block(r *rand.Rand, n int) int {
	if r.Intn(10) == 0 {
		return strangers[r.Intn(len(strangers))]
	}
	return r.Intn(n)
}

// A row and a plain one are done the same to, in an order that is the same in each run.
func TestManyCalls(t *testing.T) {
	for seed := range int64(40) {
		r := rand.New(rand.NewSource(seed))
		n := []int{1, 2, 3, 8, 96}[seed%5]
		c := of(t)
		for range 500 {
			switch b := block(r, n); r.Intn(8) {
			case 0, 1, 2:
				c.drop(b)
			case 3:
				if other := c.clone(); r.Intn(2) == 0 {
					c = other
				}
			default:
				c.touch(b)
			}
			asked := r.Intn(n+4) - 2
			saysOldest(t, c.r, c.p, asked)
			saysHas(t, c.r, c.p, block(r, n), asked)
		}
	}
}

// Blocks stand in the order in which each was touched last, which is told here by the number of the touch.
func TestInTheOrderOfTheLastTouches(t *testing.T) {
	r := rand.New(rand.NewSource(7))
	row, last := New(), map[int]int{}
	for touch := range 4000 {
		b := block(r, 30)
		if r.Intn(4) == 0 {
			_, was := last[b]
			if row.Drop(b) != was {
				t.Fatalf("Drop(%d): %v", b, !was)
			}
			delete(last, b)
		} else {
			row.Touch(b)
			last[b] = touch
		}
		l := row.All()
		if len(l) != len(last) || row.Len() != len(last) {
			t.Fatalf("All: %v; Len: %d, not %d", l, row.Len(), len(last))
		}
		for i, b := range l {
			at, is := last[b]
			if !is || i > 0 && at <= last[l[i-1]] {
				t.Fatalf("All: %v, where %d was touched last at %d", l, b, at)
			}
		}
	}
}

// All rows of six touches and drops of three blocks.
func TestAllRowsOfSix(t *testing.T) {
	for n := range 6 * 6 * 6 * 6 * 6 * 6 {
		r, p := New(), plain{}
		for range 6 {
			b, touch := n%3, n/3%2 == 0
			n /= 6
			if was := p.has(b); !touch && r.Drop(b) != was {
				t.Fatalf("Drop(%d): %v of %v", b, !was, p)
			}
			p = p.without(b)
			if touch {
				r.Touch(b)
				p = append(p, b)
			}
			if l := r.All(); !slices.Equal(l, p) || r.Len() != len(p) {
				t.Fatalf("All: %v, not %v; Len: %d", l, p, r.Len())
			}
		}
	}
}

// Drop of a block that was just touched leaves the others as they stood; so does a touch of the newest.
func TestTheOthersStandAsTheyStood(t *testing.T) {
	r := rand.New(rand.NewSource(11))
	c := of(t)
	for range 600 {
		b := block(r, 20)
		others := c.p.without(b)
		c.touch(b)
		c.is(append(slices.Clone(others), b)...)
		c.touch(b)
		c.is(append(slices.Clone(others), b)...)
		if r.Intn(3) == 0 {
			c.drop(b)
			c.is(others...)
		}
	}
}

// Who always drops the oldest meets all blocks in the order in which they were touched last.
func TestTheOldestOneByOne(t *testing.T) {
	r := rand.New(rand.NewSource(13))
	c := of(t)
	for range 300 {
		c.touch(block(r, 50))
	}
	for want := c.r.All(); len(want) > 0; want = want[1:] {
		oldest := c.r.Oldest(1)
		if !slices.Equal(oldest, want[:1]) {
			t.Fatalf("Oldest(1): %v, not %v", oldest, want[:1])
		}
		c.drop(oldest...)
	}
	c.is()
}

func TestALongRow(t *testing.T) {
	const n = 300000
	r := New()
	for round := range 3 {
		for block := range n {
			r.Touch((block*7 + round) % n)
		}
	}
	if r.Len() != n || len(r.All()) != n || len(r.Oldest(n+1)) != n || len(r.Oldest(n-1)) != n-1 {
		t.Fatalf("Len: %d; All: %d", r.Len(), len(r.All()))
	}
	for i, block := range r.Clone().All() {
		if block != (i*7+2)%n {
			t.Fatalf("the block at %d: %d", i, block)
		}
	}
	for block := range n {
		if !r.Has(block) || !r.Drop(block) || r.Has(block) || r.Drop(block) {
			t.Fatalf("Drop(%d)", block)
		}
	}
	says(t, r, nil)
}

func TestTwoRowsHaveNothingToDoWithEachOther(t *testing.T) {
	one, two := of(t, 1, 2, 3), of(t, 3, 2)
	one.touch(1)
	two.says()
	two.drop(2)
	one.says()
	two.touch(1, 9)
	one.drop(1, 3)
	two.says()
	one.says()
}

// The same calls have the same answers.
func TestTheSameCallsHaveTheSameAnswers(t *testing.T) {
	run := func() []int {
		r := rand.New(rand.NewSource(3))
		row := New()
		var l []int
		for range 200 {
			row.Touch(block(r, 40))
			if row.Drop(block(r, 40)) {
				l = append(l, -1)
			}
			l = append(l, row.Clone().All()...)
			l = append(l, row.Oldest(r.Intn(5))...)
		}
		return l
	}
	want := run()
	for range 20 {
		if got := run(); !slices.Equal(got, want) {
			t.Fatalf("%v, not %v", got, want)
		}
	}
}
