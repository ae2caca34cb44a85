package recency

import (
	"math"
	"slices"
	"testing"
)

func TestTheChaptersExample(t *testing.T) {
	r := New()
	for _, block := range []int{1, 2, 3, 1} {
		r.Touch(block)
	}
	if l := r.All(); !slices.Equal(l, []int{2, 3, 1}) {
		t.Errorf("All: %v", l)
	}
	if l := r.Oldest(1); !slices.Equal(l, []int{2}) {
		t.Errorf("Oldest(1): %v", l)
	}
	if !r.Drop(3) {
		t.Error("Drop(3): false")
	}
	if r.Drop(3) {
		t.Error("Drop(3) once more: true")
	}
	says(t, r, plain{2, 1})
}

func TestARowOfNobody(t *testing.T) {
	for name, r := range map[string]*Row{"new": New(), "a clone": New().Clone(), "left": leftByAll()} {
		if n := r.Len(); n != 0 {
			t.Errorf("%s: Len: %d", name, n)
		}
		if l := r.All(); len(l) != 0 {
			t.Errorf("%s: All: %v", name, l)
		}
		for _, n := range strangers {
			if r.Has(n) {
				t.Errorf("%s: Has(%d)", name, n)
			}
			if r.Drop(n) {
				t.Errorf("%s: Drop(%d)", name, n)
			}
			if l := r.Oldest(n); len(l) != 0 {
				t.Errorf("%s: Oldest(%d): %v", name, n, l)
			}
		}
		says(t, r, nil)
		r.Touch(5)
		says(t, r, plain{5})
	}
}

// leftByAll is a row whose blocks were all dropped.
func leftByAll() *Row {
	r := New()
	for _, block := range strangers {
		r.Touch(block)
	}
	for _, block := range strangers {
		r.Drop(block)
	}
	return r
}

func TestTouchOfABlockThatIsNotThere(t *testing.T) {
	c := of(t)
	c.touch(4)
	c.is(4)
	c.touch(2)
	c.is(4, 2)
	c.touch(9)
	c.is(4, 2, 9)
	c.touch(3)
	c.is(4, 2, 9, 3)
}

// Touched, a block that was there already is the newest, and the others stand as they stood.
func TestTouchOfABlockThatIsThere(t *testing.T) {
	for name, row := range map[string]struct {
		blocks []int
		touch  int
		want   []int
	}{
		"the oldest":          {[]int{1, 2, 3, 4}, 1, []int{2, 3, 4, 1}},
		"behind the oldest":   {[]int{1, 2, 3, 4}, 2, []int{1, 3, 4, 2}},
		"ahead of the newest": {[]int{1, 2, 3, 4}, 3, []int{1, 2, 4, 3}},
		"the newest":          {[]int{1, 2, 3, 4}, 4, []int{1, 2, 3, 4}},
		"the oldest of two":   {[]int{7, 8}, 7, []int{8, 7}},
		"the newest of two":   {[]int{7, 8}, 8, []int{7, 8}},
		"one between":         {[]int{7, 8, 9}, 8, []int{7, 9, 8}},
		"the only one":        {[]int{7}, 7, []int{7}},
	} {
		c := of(t, row.blocks...)
		for range 3 { // once it is the newest, it stays so
			c.touch(row.touch)
			if l := c.r.All(); !slices.Equal(l, row.want) {
				t.Errorf("%s: All: %v, not %v", name, l, row.want)
			}
		}
		c.touch(77)
		c.is(append(row.want, 77)...)
	}
}

func TestDrop(t *testing.T) {
	for name, row := range map[string]struct {
		blocks []int
		drop   int
		was    bool
		want   []int
	}{
		"the oldest":            {[]int{1, 2, 3, 4}, 1, true, []int{2, 3, 4}},
		"behind the oldest":     {[]int{1, 2, 3, 4}, 2, true, []int{1, 3, 4}},
		"ahead of the newest":   {[]int{1, 2, 3, 4}, 3, true, []int{1, 2, 4}},
		"the newest":            {[]int{1, 2, 3, 4}, 4, true, []int{1, 2, 3}},
		"the oldest of two":     {[]int{7, 8}, 7, true, []int{8}},
		"the newest of two":     {[]int{7, 8}, 8, true, []int{7}},
		"the only one":          {[]int{7}, 7, true, nil},
		"one that is not there": {[]int{1, 2, 4, 5}, 3, false, []int{1, 2, 4, 5}},
		"of nobody":             {nil, 3, false, nil},
		"0 that is not there":   {[]int{7}, 0, false, []int{7}},
	} {
		c := of(t, row.blocks...)
		if was := c.r.Drop(row.drop); was != row.was {
			t.Errorf("%s: Drop: %v", name, was)
		}
		c.p = c.p.without(row.drop)
		c.is(row.want...)
		c.says()
		if c.r.Has(row.drop) {
			t.Errorf("%s: Has, behind it was dropped", name)
		}
		for range 2 {
			if c.r.Drop(row.drop) {
				t.Errorf("%s: dropped twice", name)
			}
			c.is(row.want...)
		}
		c.touch(77)
		c.is(append(slices.Clone(row.want), 77)...)
	}
}

// A block that comes back is the newest, wherever it stood.
func TestABlockThatIsDroppedAndTouchedAgain(t *testing.T) {
	for block, want := range map[int][]int{1: {2, 3, 1}, 2: {1, 3, 2}, 3: {1, 2, 3}} {
		c := of(t, 1, 2, 3)
		for range 3 {
			c.drop(block)
			c.touch(block)
			c.is(want...)
		}
	}
	c := of(t, 5)
	for range 3 {
		c.drop(5)
		c.is()
		c.touch(5)
		c.is(5)
	}
}

func TestABlockThatComesBackBehindOthers(t *testing.T) {
	c := of(t, 1, 2, 3)
	c.drop(2)
	c.touch(4, 1)
	c.is(3, 4, 1)
	c.touch(2)
	c.is(3, 4, 1, 2)
	c.drop(3, 4, 1, 2)
	c.is()
	c.touch(2, 1)
	c.is(2, 1)
}

func TestBlocksOfAllNumbers(t *testing.T) {
	for _, block := range strangers {
		c := of(t, block)
		c.is(block)
		c.touch(block)
		c.is(block)
		c.drop(block)
		c.is()
		c.drop(block)
	}
	c := of(t, strangers...)
	c.is(strangers...)
	c.touch(0, math.MinInt, -1, math.MaxInt)
	if l := c.r.All(); !slices.Equal(l[len(l)-4:], []int{0, math.MinInt, -1, math.MaxInt}) {
		t.Errorf("All: %v", l)
	}
	c.drop(math.MaxInt, 0, math.MinInt, -1)
	c.drop(math.MaxInt, 0, math.MinInt, -1)
	c.touch(-1, math.MaxInt, 0, math.MinInt)
}

// Numbers that are alike but for their sign, or for bits above the thirty-second, are other blocks.
func TestBlocksThatAreNearlyAlike(t *testing.T) {
	c := of(t, 5, -5, 5+1<<32, 5+1<<8, 5+1<<16, 5+1<<62, 5+math.MinInt)
	c.touch(-5)
	c.drop(5)
	c.is(5+1<<32, 5+1<<8, 5+1<<16, 5+1<<62, 5+math.MinInt, -5)
	c.drop(5+1<<32, 5+math.MinInt)
	c.touch(5)
	c.is(5+1<<8, 5+1<<16, 5+1<<62, -5, 5)
}

func TestOldest(t *testing.T) {
	c := of(t, 30, 10, -20, 0, 10)
	for n, want := range map[int][]int{
		math.MinInt:     nil,
		-5:              nil,
		-1:              nil,
		0:               nil,
		1:               {30},
		2:               {30, -20},
		3:               {30, -20, 0},
		4:               {30, -20, 0, 10},
		5:               {30, -20, 0, 10},
		6:               {30, -20, 0, 10},
		1 << 32:         {30, -20, 0, 10},
		1<<32 + 1:       {30, -20, 0, 10},
		math.MaxInt - 1: {30, -20, 0, 10},
		math.MaxInt:     {30, -20, 0, 10},
	} {
		if l := c.r.Oldest(n); !slices.Equal(l, want) {
			t.Errorf("Oldest(%d): %v, not %v", n, l, want)
		}
	}
	c.says() // what was asked has changed nothing
}

func TestOldestOfRowsOfAllLengths(t *testing.T) {
	c := of(t)
	for n := range 20 {
		c.touch(100 - n)
		for asked := -2; asked <= n+3; asked++ {
			saysOldest(t, c.r, c.p, asked)
		}
	}
}

// Asked for, a block is no newer than it was.
func TestWhatIsAskedChangesNothing(t *testing.T) {
	c := of(t, 3, 1, 2)
	for range 3 {
		c.r.Has(3)
		c.r.Has(9)
		c.r.Len()
		c.r.Oldest(2)
		c.r.All()
		c.r.Clone()
		c.is(3, 1, 2)
	}
	c.says()
}

func TestAllBlocksTouchedInTurn(t *testing.T) {
	all := make([]int, 96)
	for block := range all {
		all[block] = block
	}
	c := of(t, all...)
	c.is(all...)
	c.touch(all...) // whoever is the oldest each time
	c.is(all...)
	slices.Reverse(all)
	c.touch(all...)
	c.is(all...)
	c.touch(all...)
	c.is(all...)
	c.drop(all...)
	c.is()
	c.touch(all...)
	c.is(all...)
}

func TestTouchesTurnedRound(t *testing.T) {
	c := of(t, 1, 2, 3, 4, 5)
	c.touch(5, 4, 3, 2, 1)
	c.is(5, 4, 3, 2, 1)
	c.touch(1, 2, 3, 4, 5)
	c.is(1, 2, 3, 4, 5)
}
