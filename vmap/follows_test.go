package vmap

import (
	"math/rand"
	"slices"
	"testing"

	"braidwork/api"
)

// place is one of few places, so that blocks meet there; now and then one that is not right.
func place(r *rand.Rand) api.Where {
	switch r.Intn(24) {
	case 0:
		return edges[r.Intn(len(edges))]
	case 1, 2, 3, 4, 5:
		return none
	case 6, 7, 8, 9, 10, 11:
		return mirror(3*r.Intn(2), 6+r.Intn(2))
	}
	return raid(3*r.Intn(3), 6+r.Intn(3))
}

// changes are some of n blocks; now and then one of a block that there is not.
func changes(r *rand.Rand, n int) []api.Change {
	l := make([]api.Change, r.Intn(6))
	for i := range l {
		l[i] = to(r.Intn(n), place(r))
		if r.Intn(40) == 0 {
			l[i].Block = strangers[r.Intn(len(strangers))]
		}
	}
	return l
}

// sound tells that no place that is not nowhere has two blocks, and that At and Holder are one another's turned round.
func sound(t *testing.T, m *Map) {
	t.Helper()
	at := map[api.Where]int{}
	in := map[int]int{}
	for block, w := range m.All() {
		holder, ok := m.Holder(w)
		if w == none {
			if holder != 0 || ok {
				t.Fatalf("Holder of nowhere: %d, %v", holder, ok)
			}
			continue
		}
		if other, taken := at[w]; taken {
			t.Fatalf("%d and %d are both at %v", other, block, w)
		}
		if holder != block || !ok {
			t.Fatalf("Holder(%v): %d, %v, not %d", w, holder, ok, block)
		}
		at[w] = block
		in[w.Group]++
	}
	for group, n := range in {
		if l := m.In(group); len(l) != n || !slices.IsSorted(l) {
			t.Fatalf("In(%d): %v, not %d blocks", group, l, n)
		}
	}
}

// A map and a plain one are done the same to, in a row that is the same in each run.
func TestManyCalls(t *testing.T) {
	seen := map[api.Errno]int{}
	for seed := range int64(60) {
		r := rand.New(rand.NewSource(seed))
		n := []int{1, 2, 4, 7, 12, 96}[seed%6]
		c := pair{t, New(n), make(plain, n)}
		for range 300 {
			seen[c.set(changes(r, n)...)]++
			sound(t, c.m)
		}
		saysEdges(t, c.m, c.p)
	}
	for _, e := range []api.Errno{api.OK, api.ErrRange, api.ErrArg, api.ErrState} {
		if seen[e] < 100 {
			t.Errorf("%v was answered %d times", e, seen[e])
		}
	}
}

// All rows of three changes of three blocks to nowhere and two places, behind each content that there may be.
func TestAllRowsOfThree(t *testing.T) {
	all := []api.Where{none, mirror(3, 5), raid(3, 5)}
	one := func(n int) api.Change { return to(n%3, all[n/3%3]) }
	for content := range 27 {
		was := []api.Change{to(0, all[content%3]), to(1, all[content/3%3]), to(2, all[content/9])}
		if New(3).Set(was) != api.OK {
			continue // two at one place
		}
		for n := range 9 * 9 * 9 {
			m, p := New(3), make(plain, 3)
			m.Set(was)
			p.set(was)
			row := []api.Change{one(n), one(n / 9), one(n / 81)}
			if e, want := m.Set(row), p.set(row); e != want {
				t.Fatalf("Set(%v) behind %v: %v, not %v", row, was, e, want)
			}
			if l := m.All(); !slices.Equal(l, p) {
				t.Fatalf("All behind %v and %v: %v, not %v", was, row, l, p)
			}
			sound(t, m)
		}
	}
}

// Blocks that nobody changes stay, whatever others do.
func TestBlocksThatNobodyChangesStay(t *testing.T) {
	r := rand.New(rand.NewSource(5))
	c := of(t, mirror(3, 6), raid(3, 6), none, raid(0, 8), none, none, none)
	for range 2000 {
		l := slices.DeleteFunc(changes(r, 7), func(c api.Change) bool { return c.Block >= 0 && c.Block < 4 })
		c.m.Set(l)
		sound(t, c.m)
		if all := c.m.All(); !slices.Equal(all[:4], c.p[:4]) {
			t.Fatalf("All: %v, not %v", all[:4], c.p[:4])
		}
		for block, w := range c.p[:4] {
			if holder, ok := c.m.Holder(w); w != none && (holder != block || !ok) {
				t.Fatalf("Holder(%v): %d, %v, not %d", w, holder, ok, block)
			}
		}
	}
}

// One row of changes is the same as these made one by one, where no one of them is refused.
func TestOneByOne(t *testing.T) {
	r := rand.New(rand.NewSource(9))
	one, many := New(5), New(5)
	var row []api.Change
	for range 3000 {
		c := to(r.Intn(5), place(r))
		if one.Set([]api.Change{c}) == api.OK {
			row = append(row, c)
		}
		if len(row) < 4 {
			continue
		}
		if e := many.Set(row); e != api.OK {
			t.Fatalf("Set(%v): %v", row, e)
		}
		if x, y := one.All(), many.All(); !slices.Equal(x, y) {
			t.Fatalf("%v, not %v", y, x)
		}
		row = nil
	}
}

func TestTwoMapsHaveNothingToDoWithEachOther(t *testing.T) {
	one, two := begin(t, 3), begin(t, 2)
	l := []api.Change{to(1, mirror(3, 5))}
	one.is(api.OK, l...)
	two.says()
	two.is(api.OK, l...)
	one.is(api.OK, to(0, raid(3, 5)))
	two.is(api.OK, to(1, none))
	one.says()
	two.says()
}

// The same calls have the same answers.
func TestTheSameCallsHaveTheSameAnswers(t *testing.T) {
	run := func() []int {
		r := rand.New(rand.NewSource(3))
		m := New(12)
		var l []int
		for range 200 {
			l = append(l, int(m.Set(changes(r, 12))))
			l = append(l, m.In(3)...)
			holder, _ := m.Holder(place(r))
			l = append(l, holder)
		}
		return l
	}
	want := run()
	for range 20 {
		if got := run(); !slices.Equal(got, want) {
			t.Fatalf("%v, not %v", got, want)
		}
	}
}
