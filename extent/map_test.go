package extent

import (
	"maps"
	"math"
	"slices"
	"testing"

	"braidwork/api"
)

// plain is a map as the chapter tells it: of each member its extents' first sectors, and whether each is taken.
type plain map[int]map[int]bool

func (p plain) add(disk, sectors int) {
	p[disk] = map[int]bool{}
	for _, at := range placesOf(sectors) {
		p[disk][at] = false
	}
}

// errorOf is what TakeAt (to: true) and Free (to: false) are to answer.
func (p plain) errorOf(e api.Extent, to bool) api.Errno {
	if p[e.Disk] == nil {
		return api.ErrNone
	}
	taken, is := p[e.Disk][e.At]
	switch {
	case !is:
		return api.ErrArg
	case taken == to:
		return api.ErrState
	}
	return api.OK
}

// least is what Take is to answer.
func (p plain) least(disk int) (api.Extent, api.Errno) {
	if p[disk] == nil {
		return api.Extent{}, api.ErrNone
	}
	for _, at := range slices.Sorted(maps.Keys(p[disk])) {
		if !p[disk][at] {
			return api.Extent{Disk: disk, At: at}, api.OK
		}
	}
	return api.Extent{}, api.ErrNoSpace
}

func (p plain) clone() plain {
	c := plain{}
	for disk, extents := range p {
		c[disk] = maps.Clone(extents)
	}
	return c
}

// strangers are numbers that few maps of these tests have.
var strangers = []int{math.MinInt, -1 << 40, -2, -1, 99, 1 << 40, math.MaxInt - 1}

// strangeAt are sectors at which no member's extent begins.
var strangeAt = []int{math.MinInt, math.MinInt + 114, math.MinInt + 122, -122, -114, -8, -1, 0, 1, 8, 98, 106, 112, 113, 115, 121, 123, 129, 4089, 4091, 4096, 4098, 4106, 114 + 8*65535, 114 + 8*65536, 1 << 40, math.MaxInt - 5, math.MaxInt}

// says holds all that a map tells against a plain one.
func says(t *testing.T, m *Map, want plain) {
	t.Helper()
	if l := m.Disks(); !slices.Equal(l, slices.Sorted(maps.Keys(want))) {
		t.Fatalf("Disks: %v", l)
	}
	for disk, extents := range want {
		used := 0
		for at, taken := range extents {
			if taken {
				used++
			}
			if e := (api.Extent{Disk: disk, At: at}); m.Has(e) != taken {
				t.Fatalf("Has of %v: %v", e, !taken)
			}
		}
		if m.Used(disk) != used || m.Room(disk) != len(extents)-used {
			t.Fatalf("%d: Used %d, Room %d, not %d and %d", disk, m.Used(disk), m.Room(disk), used, len(extents)-used)
		}
		for _, at := range strangeAt {
			if m.Has(api.Extent{Disk: disk, At: at}) {
				t.Fatalf("Has of %d, %d", disk, at)
			}
		}
	}
	for _, disk := range strangers {
		if want[disk] == nil && (m.Used(disk) != 0 || m.Room(disk) != 0 || m.Has(api.Extent{Disk: disk, At: 114})) {
			t.Fatalf("%d: Used %d, Room %d of no member", disk, m.Used(disk), m.Room(disk))
		}
	}
}

// with is a map of these members, with so many sectors each, and a plain one.
func with(t *testing.T, sizes map[int]int) (*Map, plain) {
	t.Helper()
	m, p := New(), plain{}
	for disk, sectors := range sizes {
		if e := m.Add(disk, sectors); e != api.OK {
			t.Fatalf("Add(%d, %d): %v", disk, sectors, e)
		}
		p.add(disk, sectors)
	}
	says(t, m, p)
	return m, p
}

// takeAll takes all extents of a member, and holds each against the chapter.
func takeAll(t *testing.T, m *Map, p plain, disk int) {
	t.Helper()
	for range p[disk] {
		takeOne(t, m, p, disk)
	}
	takeOne(t, m, p, disk)
}

func takeOne(t *testing.T, m *Map, p plain, disk int) {
	t.Helper()
	want, wrong := p.least(disk)
	if x, e := m.Take(disk); x != want || e != wrong {
		t.Fatalf("Take(%d): %v, %v, not %v, %v", disk, x, e, want, wrong)
	}
	if wrong == api.OK {
		p[disk][want.At] = true
	}
}

func takeAt(t *testing.T, m *Map, p plain, x api.Extent) {
	t.Helper()
	want := p.errorOf(x, true)
	if e := m.TakeAt(x); e != want {
		t.Fatalf("TakeAt(%v): %v, not %v", x, e, want)
	}
	if want == api.OK {
		p[x.Disk][x.At] = true
	}
}

func free(t *testing.T, m *Map, p plain, x api.Extent) {
	t.Helper()
	want := p.errorOf(x, false)
	if e := m.Free(x); e != want {
		t.Fatalf("Free(%v): %v, not %v", x, e, want)
	}
	if want == api.OK {
		p[x.Disk][x.At] = false
	}
}

func TestTheChaptersExampleOfAMap(t *testing.T) {
	m := New()
	if e := m.Add(3, 130); e != api.OK {
		t.Fatal(e)
	}
	for _, want := range []api.Extent{{Disk: 3, At: 114}, {Disk: 3, At: 122}} {
		if x, e := m.Take(3); x != want || e != api.OK {
			t.Errorf("Take: %v, %v, not %v", x, e, want)
		}
	}
	if x, e := m.Take(3); x != (api.Extent{}) || e != api.ErrNoSpace {
		t.Errorf("Take of none: %v, %v", x, e)
	}
}

func TestNewHasNoMembers(t *testing.T) {
	m := New()
	says(t, m, plain{})
	for _, disk := range append([]int{0, 1}, strangers...) {
		if x, e := m.Take(disk); x != (api.Extent{}) || e != api.ErrNone {
			t.Errorf("Take(%d): %v, %v", disk, x, e)
		}
		for _, at := range append([]int{114}, strangeAt...) {
			x := api.Extent{Disk: disk, At: at}
			if e := m.TakeAt(x); e != api.ErrNone {
				t.Errorf("TakeAt(%v): %v", x, e)
			}
			if e := m.Free(x); e != api.ErrNone {
				t.Errorf("Free(%v): %v", x, e)
			}
		}
	}
	says(t, m, plain{})
}

func TestAddOfAllSizes(t *testing.T) {
	m, p := New(), plain{}
	for sectors := 0; sectors <= 4096; sectors++ {
		if e := m.Add(sectors, sectors); e != api.OK {
			t.Fatalf("Add of %d sectors: %v", sectors, e)
		}
		p.add(sectors, sectors)
		if m.Used(sectors) != 0 || m.Room(sectors) != len(placesOf(sectors)) {
			t.Fatalf("%d sectors: Used %d, Room %d", sectors, m.Used(sectors), m.Room(sectors))
		}
	}
	says(t, m, p)
}

func TestAddOfNumbersFarApart(t *testing.T) {
	m, p := with(t, map[int]int{math.MaxInt: 122, 0: 130, 31: 138, 1 << 40: 4096})
	for disk := range p {
		takeOne(t, m, p, disk)
	}
	says(t, m, p)
}

func TestAddOfWrongOnes(t *testing.T) {
	m, p := with(t, map[int]int{0: 200, 4: 160})
	takeOne(t, m, p, 4)
	for _, disk := range []int{-1, -2, -4, -1 << 40, math.MinInt} {
		for _, sectors := range []int{-1, 0, 160, 4096, 4097} {
			if e := m.Add(disk, sectors); e != api.ErrArg {
				t.Errorf("Add(%d, %d): %v", disk, sectors, e)
			}
		}
	}
	// Of a member that there is, this is told first.
	for _, disk := range []int{0, 1, 4, 99} {
		for _, sectors := range []int{-1, -114, -1 << 40, math.MinInt, math.MinInt + 114, 4097, 4098, 65536, 1 << 40, math.MaxInt} {
			if e := m.Add(disk, sectors); e != api.ErrArg {
				t.Errorf("Add(%d, %d): %v", disk, sectors, e)
			}
		}
	}
	says(t, m, p)
}

func TestAddOfAMemberThatThereIs(t *testing.T) {
	m, p := with(t, map[int]int{0: 200, 4: 160, 5: 0})
	takeOne(t, m, p, 4)
	for disk := range p {
		for _, sectors := range []int{0, 122, 160, 200, 4096} {
			if e := m.Add(disk, sectors); e != api.ErrState {
				t.Errorf("Add(%d, %d): %v", disk, sectors, e)
			}
		}
	}
	says(t, m, p)
}

func TestTakeTakesAllInOrder(t *testing.T) {
	for _, sectors := range []int{0, 113, 114, 121, 122, 129, 130, 160, 1000, 4089, 4090, 4096} {
		m, p := with(t, map[int]int{2: sectors, 7: 160})
		takeAll(t, m, p, 2)
		says(t, m, p)
		takeOne(t, m, p, 7)
		takeOne(t, m, p, 2)
		says(t, m, p)
	}
}

func TestTakeTakesTheLeastFreeOne(t *testing.T) {
	m, p := with(t, map[int]int{1: 4096})
	takeAll(t, m, p, 1)
	for _, at := range []int{4082, 114, 1138, 122, 626} {
		free(t, m, p, api.Extent{Disk: 1, At: at})
	}
	for _, want := range []int{114, 122, 626, 1138, 4082} {
		if x, e := m.Take(1); x != (api.Extent{Disk: 1, At: want}) || e != api.OK {
			t.Errorf("Take: %v, %v, not %d", x, e, want)
		}
	}
	if x, e := m.Take(1); x != (api.Extent{}) || e != api.ErrNoSpace {
		t.Errorf("Take of none: %v, %v", x, e)
	}
}

func TestTakeGoesRoundWhatIsTakenAlready(t *testing.T) {
	m, p := with(t, map[int]int{1: 160})
	takeAt(t, m, p, api.Extent{Disk: 1, At: 114})
	takeAt(t, m, p, api.Extent{Disk: 1, At: 130})
	takeAll(t, m, p, 1)
	says(t, m, p)
}

func TestTakeOfNoMember(t *testing.T) {
	m, p := with(t, map[int]int{0: 200, 4: 160})
	for _, disk := range append([]int{1, 3, 5}, strangers...) {
		if x, e := m.Take(disk); x != (api.Extent{}) || e != api.ErrNone {
			t.Errorf("Take(%d): %v, %v", disk, x, e)
		}
	}
	says(t, m, p)
}

// Each sector of a member, and some around it: taken, taken again, freed, freed again.
func TestTakeAtAndFreeAtAllSectors(t *testing.T) {
	for _, sectors := range []int{0, 114, 121, 122, 129, 130, 131, 160, 4096} {
		m, p := with(t, map[int]int{6: sectors, 8: 4096})
		for at := -10; at < sectors+20; at++ {
			x := api.Extent{Disk: 6, At: at}
			free(t, m, p, x)
			takeAt(t, m, p, x)
			if want := p.errorOf(x, true) == api.ErrState; m.Has(x) != want {
				t.Fatalf("Has(%v): %v", x, !want)
			}
			takeAt(t, m, p, x)
		}
		says(t, m, p)
		if m.Room(6) != 0 || m.Used(6) != len(placesOf(sectors)) {
			t.Fatalf("%d sectors: Used %d, Room %d of all that are taken", sectors, m.Used(6), m.Room(6))
		}
		for at := -10; at < sectors+20; at++ {
			x := api.Extent{Disk: 6, At: at}
			takeAt(t, m, p, x)
			free(t, m, p, x)
			if m.Has(x) {
				t.Fatalf("Has(%v), which was freed", x)
			}
			free(t, m, p, x)
		}
		says(t, m, p)
	}
}

// A member's last extent and what is behind it, where greater members have more.
func TestTheLastExtentAndBehindIt(t *testing.T) {
	m, p := with(t, map[int]int{0: 160, 1: 4096, 2: 0})
	for _, c := range []struct {
		x    api.Extent
		want api.Errno
	}{
		{api.Extent{Disk: 0, At: 146}, api.OK},
		{api.Extent{Disk: 0, At: 154}, api.ErrArg},
		{api.Extent{Disk: 0, At: 162}, api.ErrArg},
		{api.Extent{Disk: 1, At: 4082}, api.OK},
		{api.Extent{Disk: 1, At: 4090}, api.ErrArg},
		{api.Extent{Disk: 2, At: 114}, api.ErrArg},
		{api.Extent{Disk: 3, At: 114}, api.ErrNone},
	} {
		if e := m.TakeAt(c.x); e != c.want {
			t.Errorf("TakeAt(%v): %v, not %v", c.x, e, c.want)
		}
		if m.Has(c.x) != (c.want == api.OK) {
			t.Errorf("Has(%v): %v", c.x, m.Has(c.x))
		}
		if e := m.Free(c.x); e != c.want {
			t.Errorf("Free(%v): %v, not %v", c.x, e, c.want)
		}
	}
	says(t, m, p)
}

func TestTakeAtAndFreeOfWrongOnes(t *testing.T) {
	m, p := with(t, map[int]int{0: 200, 4: 160})
	takeAll(t, m, p, 4)
	before := p.clone()
	for _, at := range append([]int{114, 122}, strangeAt...) {
		for _, disk := range append([]int{0, 4}, strangers...) {
			x := api.Extent{Disk: disk, At: at}
			if p.errorOf(x, true) != api.OK {
				takeAt(t, m, p, x)
			}
			if p.errorOf(x, false) != api.OK {
				free(t, m, p, x)
			}
		}
	}
	says(t, m, before)
}

func TestTwiceTakenAndTwiceFreed(t *testing.T) {
	m, _ := with(t, map[int]int{3: 160})
	x, _ := m.Take(3)
	if e := m.TakeAt(x); e != api.ErrState {
		t.Errorf("TakeAt of a taken one: %v", e)
	}
	if e := m.Free(x); e != api.OK {
		t.Errorf("Free of a taken one: %v", e)
	}
	if e := m.Free(x); e != api.ErrState {
		t.Errorf("Free of a free one: %v", e)
	}
	if y, e := m.Take(3); x != y || e != api.OK {
		t.Errorf("Take of what was freed: %v, %v", y, e)
	}
}

func TestMembersHaveNothingToDoWithEachOther(t *testing.T) {
	m, p := with(t, map[int]int{0: 160, 1: 160, 9: 160})
	takeAll(t, m, p, 1)
	says(t, m, p)
	takeAt(t, m, p, api.Extent{Disk: 9, At: 130})
	free(t, m, p, api.Extent{Disk: 1, At: 130})
	says(t, m, p)
	takeOne(t, m, p, 0)
	says(t, m, p)
}

func TestDisksRise(t *testing.T) {
	m := New()
	var want []int
	for _, disk := range []int{5, 3, 11, 0, 31, 7, 1 << 40, 2, 10, 8} {
		m.Add(disk, 160)
		want = append(want, disk)
		slices.Sort(want)
		if l := m.Disks(); !slices.Equal(l, want) {
			t.Fatalf("Disks: %v, not %v", l, want)
		}
	}
}

func TestDisksAreTheCallers(t *testing.T) {
	m, p := with(t, map[int]int{0: 160, 1: 122, 9: 0})
	first, second := m.Disks(), m.Disks()
	for i := range first {
		first[i] = -7
	}
	_ = append(first[:0], 44, 45)
	if !slices.Equal(second, []int{0, 1, 9}) {
		t.Errorf("Disks, written over: %v", second)
	}
	says(t, m, p)
}

func TestCloneSaysTheSame(t *testing.T) {
	says(t, New().Clone(), plain{})
	m, p := with(t, map[int]int{0: 0, 1: 122, 5: 4096})
	takeAll(t, m, p, 1)
	takeAt(t, m, p, api.Extent{Disk: 5, At: 4082})
	says(t, m.Clone(), p)
	says(t, m.Clone().Clone(), p)
	says(t, m, p)
}

func TestCloneAndMapGoOnByThemselves(t *testing.T) {
	m, p := with(t, map[int]int{0: 160, 5: 4096})
	takeOne(t, m, p, 0)
	takeAt(t, m, p, api.Extent{Disk: 5, At: 4082})
	c, q := m.Clone(), p.clone()
	change := func(m *Map, p plain, added, sectors int) {
		t.Helper()
		free(t, m, p, api.Extent{Disk: 0, At: 114})
		takeAt(t, m, p, api.Extent{Disk: 0, At: 130})
		takeOne(t, m, p, 5)
		if e := m.Add(added, sectors); e != api.OK {
			t.Fatalf("Add(%d, %d): %v", added, sectors, e)
		}
		p.add(added, sectors)
		takeOne(t, m, p, added)
	}
	change(c, q, 7, 160)
	says(t, c, q)
	says(t, m, p)
	change(m, p, 7, 200)
	says(t, m, p)
	says(t, c, q)
	takeAll(t, m, p, 7)
	takeAll(t, c, q, 5)
	says(t, m, p)
	says(t, c, q)
}

func TestMapsHaveNothingToDoWithEachOther(t *testing.T) {
	m, p := with(t, map[int]int{0: 160})
	n, q := with(t, map[int]int{0: 160, 1: 160})
	takeAll(t, m, p, 0)
	says(t, n, q)
	takeOne(t, n, q, 1)
	says(t, m, p)
}
