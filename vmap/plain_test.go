package vmap

import (
	"math"
	"slices"
	"testing"

	"braidwork/api"
)

// plain is a map as the chapter tells it: of each block its place.
type plain []api.Where

// mayBe tells whether a place is right.
func mayBe(w api.Where) bool {
	nowhere := w.Tier == 0 && w.Group == 0 && w.Slot == 0
	mirror := w.Tier == 1 && w.Slot >= 0 && w.Slot <= 7
	raid := w.Tier == 2 && w.Slot >= 0 && w.Slot <= 87
	return (nowhere || mirror || raid) && w.Group >= 0 && w.Group <= 255
}

func (p plain) has(block int) bool { return block >= 0 && block < len(p) }

func (p plain) set(l []api.Change) api.Errno {
	if slices.ContainsFunc(l, func(c api.Change) bool { return !p.has(c.Block) }) {
		return api.ErrRange
	}
	if slices.ContainsFunc(l, func(c api.Change) bool { return !mayBe(c.To) }) {
		return api.ErrArg
	}
	was := slices.Clone(p)
	for _, c := range l {
		p[c.Block] = c.To
	}
	for block, w := range p {
		if w.Tier != 0 && slices.Contains(p[:block], w) {
			copy(p, was)
			return api.ErrState
		}
	}
	return api.OK
}

func (p plain) holder(w api.Where) (int, bool) {
	if block := slices.Index(p, w); block >= 0 && w != none {
		return block, true
	}
	return 0, false
}

func (p plain) in(group int) []int {
	var l []int
	for block := range p {
		if p[block].Tier != 0 && p[block].Group == group {
			l = append(l, block)
		}
	}
	return l
}

var none = api.Where{}

func mirror(group, slot int) api.Where { return api.Where{Tier: api.Mirror, Group: group, Slot: slot} }

func raid(group, slot int) api.Where { return api.Where{Tier: api.Raid, Group: group, Slot: slot} }

func to(block int, w api.Where) api.Change { return api.Change{Block: block, To: w} }

// strangers are numbers of blocks and groups that there are, at the edges, and that there are not.
var strangers = []int{math.MinInt, math.MinInt + 1, -1 << 40, -256, -2, -1, 0, 1, 2, 3, 4, 5, 7, 94, 95, 96, 97, 254, 255, 256, 257, 1 << 32, 1<<32 + 3, 1 << 40, math.MaxInt - 1, math.MaxInt}

// edges are places of all kinds, right and not.
var edges = func() []api.Where {
	var l []api.Where
	for _, tier := range []int{math.MinInt, -1, 0, 1, 2, 3, 1 << 32, 1<<32 + 1, math.MaxInt} {
		for _, group := range []int{math.MinInt, -1, 0, 1, 3, 254, 255, 256, 257, 1 << 32, math.MaxInt} {
			for _, slot := range []int{math.MinInt, -1, 0, 1, 5, 6, 7, 8, 86, 87, 88, 89, 1 << 32, math.MaxInt} {
				l = append(l, api.Where{Tier: tier, Group: group, Slot: slot})
			}
		}
	}
	return l
}()

// says holds all that a map tells against a plain one.
func says(t *testing.T, m *Map, p plain) {
	t.Helper()
	if n := m.Len(); n != len(p) {
		t.Fatalf("Len: %d, not %d", n, len(p))
	}
	if l := m.All(); !slices.Equal(l, p) {
		t.Fatalf("All: %v, not %v", l, p)
	}
	for block, w := range p {
		if at, e := m.At(block); at != w || e != api.OK {
			t.Fatalf("At(%d): %v, %v, not %v", block, at, e, w)
		}
		saysHolder(t, m, p, w)
		for _, tier := range []int{api.None, api.Mirror, api.Raid, 3} { // what stands at this slot in another tier is another place
			saysHolder(t, m, p, api.Where{Tier: tier, Group: w.Group, Slot: w.Slot})
		}
		saysIn(t, m, p, w.Group)
	}
	for _, n := range strangers {
		saysIn(t, m, p, n)
		if p.has(n) {
			continue
		}
		if w, e := m.At(n); w != none || e != api.ErrRange {
			t.Fatalf("At(%d): %v, %v, not ErrRange", n, w, e)
		}
	}
}

// saysEdges holds what is told of all kinds of places, too.
func saysEdges(t *testing.T, m *Map, p plain) {
	t.Helper()
	says(t, m, p)
	for _, w := range edges {
		saysHolder(t, m, p, w)
	}
}

func saysHolder(t *testing.T, m *Map, p plain, w api.Where) {
	t.Helper()
	want, is := p.holder(w)
	if block, ok := m.Holder(w); block != want || ok != is {
		t.Fatalf("Holder(%v): %d, %v, not %d, %v", w, block, ok, want, is)
	}
}

func saysIn(t *testing.T, m *Map, p plain, group int) {
	t.Helper()
	if l := m.In(group); !slices.Equal(l, p.in(group)) {
		t.Fatalf("In(%d): %v, not %v", group, l, p.in(group))
	}
}

// pair is a map, and a plain one to which the same is done.
type pair struct {
	*testing.T
	m *Map
	p plain
}

// begin is a pair of so many blocks.
func begin(t *testing.T, n int) pair {
	t.Helper()
	c := pair{t, New(n), make(plain, n)}
	c.says()
	return c
}

// of is a pair whose blocks are at these places, each of them put there by itself.
func of(t *testing.T, places ...api.Where) pair {
	t.Helper()
	c := begin(t, len(places))
	for block, w := range places {
		c.is(api.OK, to(block, w))
	}
	return c
}

func (c pair) says() {
	c.Helper()
	says(c.T, c.m, c.p)
}

// set does the same to both; what is told behind it is what is told of the plain one, and the changes are what they were.
func (c pair) set(l ...api.Change) api.Errno {
	c.Helper()
	was := slices.Clone(l)
	e, want := c.m.Set(l), c.p.set(slices.Clone(l))
	if e != want {
		c.Fatalf("Set(%v): %v, not %v", was, e, want)
	}
	if !slices.Equal(l, was) {
		c.Fatalf("Set has changed its changes: %v, not %v", l, was)
	}
	c.says()
	return e
}

// is does the same to both, which answers what is told here.
func (c pair) is(want api.Errno, l ...api.Change) {
	c.Helper()
	if e := c.set(l...); e != want {
		c.Fatalf("Set(%v): %v, not %v", l, e, want)
	}
}
