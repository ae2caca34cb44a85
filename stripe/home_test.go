package stripe

import (
	"math"
	"slices"
	"strings"
	"testing"

	"braidwork/api"
)

func TestSlots(t *testing.T) {
	for w, want := range map[int]int{
		math.MinInt: 0, -1 << 32: 0, -8: 0, -1: 0, 0: 0, 1: 0,
		2: 8, 3: 16, 4: 24, 5: 32, 7: 48, 8: 56, 9: 64, 10: 72, 11: 80, 12: 88, 13: 96, 1000: 7992, 1000000: 7999992,
	} {
		if n := Slots(w); n != want {
			t.Errorf("Slots(%d): %d, not %d", w, n, want)
		}
	}
}

// What stands on each extent of each stripe: a slot's letter, or P for the parity.
var drawn = [][]string{
	{"aP", "Pb", "cP", "Pd", "eP", "Pf", "gP", "Ph"},
	{"abP", "cPd", "Pef", "ghP", "iPj", "Pkl", "mnP", "oPp"},
	{"abcP", "dePf", "gPhi", "Pjkl", "mnoP", "pqPr", "sPtu", "Pvwx"},
}

func TestAsDrawn(t *testing.T) {
	for _, stripes := range drawn {
		ext := []api.Extent{{Disk: 5, At: 114}, {Disk: 0, At: 130}, {Disk: 9, At: 122}, {Disk: 2, At: 4088}}[:len(stripes[0])]
		slots := 0
		for at, line := range stripes {
			for k, letter := range line {
				p := api.Place{Disk: ext[k].Disk, At: ext[k].At + at}
				if letter == 'P' {
					wantPlace(t, "Parity", Parity, ext, at, p)
					continue
				}
				wantPlace(t, "Home", Home, ext, int(letter-'a'), p)
				slots++
			}
			wantPlaces(t, "Data", Data, ext, at, placed(ext, at, line, "P"))
			for _, letter := range strings.ReplaceAll(line, "P", "") {
				want := append(placed(ext, at, line, "P"+string(letter)), of(ext[strings.Index(line, "P")], at))
				wantPlaces(t, "Mates", Mates, ext, int(letter-'a'), want)
			}
		}
		if n := Slots(len(ext)); n != slots {
			t.Errorf("Slots(%d): %d, not %d", len(ext), n, slots)
		}
	}
}

// placed is the places of a drawn line, without what but has.
func placed(ext []api.Extent, at int, line, but string) []api.Place {
	var l []api.Place
	for k, letter := range line {
		if !strings.ContainsRune(but, letter) {
			l = append(l, of(ext[k], at))
		}
	}
	return l
}

func wantPlace(t *testing.T, name string, ask func([]api.Extent, int) (api.Place, api.Errno), ext []api.Extent, n int, want api.Place) {
	t.Helper()
	in := lent(ext, one, two)
	for range 2 {
		if p, e := ask(in, n); p != want || e != api.OK {
			t.Fatalf("%s(%v, %d): %v, %v, not %v", name, ext, n, p, e, want)
		}
	}
	stayed(t, in, ext, one, two)
}

// wantPlaces asks twice: what was answered first is written over ahead of the second time.
func wantPlaces(t *testing.T, name string, ask func([]api.Extent, int) ([]api.Place, api.Errno), ext []api.Extent, n int, want []api.Place) {
	t.Helper()
	in := lent(ext, one, two)
	for range 2 {
		l, e := ask(in, n)
		if !slices.Equal(l, want) || e != api.OK {
			t.Fatalf("%s(%v, %d): %v, %v, not %v", name, ext, n, l, e, want)
		}
		clear(l)
		clear(l[:cap(l)])
	}
	stayed(t, in, ext, one, two)
}

// Each number of extents, less than there are stripes, as many, and more.
func TestAsTold(t *testing.T) {
	for _, ext := range append(rows(), []api.Extent{one, near}, []api.Extent{one, one, one}, []api.Extent{{}, {}}, []api.Extent{below, none, dead}) {
		l := layoutOf(ext)
		if n := Slots(len(ext)); n != len(l.slots) {
			t.Errorf("Slots(%d): %d, not %d", len(ext), n, len(l.slots))
		}
		for slot := range l.slots {
			wantPlace(t, "Home", Home, ext, slot, l.home(slot))
			wantPlaces(t, "Mates", Mates, ext, slot, l.mates(slot))
		}
		for at := range 8 {
			wantPlace(t, "Parity", Parity, ext, at, l.parity[at])
			wantPlaces(t, "Data", Data, ext, at, l.data[at])
		}
	}
}

// Extents may be anything: whether there is such a disk, or place, is not asked.
func TestAnyExtents(t *testing.T) {
	ext := []api.Extent{{Disk: -1, At: -1 << 40}, {Disk: math.MaxInt, At: 1 << 40}, {Disk: math.MinInt, At: 3}}
	wantPlace(t, "Home", Home, ext, 15, api.Place{Disk: math.MinInt, At: 10})
	wantPlace(t, "Home", Home, ext, 14, api.Place{Disk: -1, At: -1<<40 + 7})
	wantPlace(t, "Parity", Parity, ext, 7, api.Place{Disk: math.MaxInt, At: 1<<40 + 7})
	wantPlaces(t, "Data", Data, ext, 7, []api.Place{{Disk: -1, At: -1<<40 + 7}, {Disk: math.MinInt, At: 10}})
	wantPlaces(t, "Mates", Mates, ext, 15, []api.Place{{Disk: -1, At: -1<<40 + 7}, {Disk: math.MaxInt, At: 1<<40 + 7}})
}

func TestVeryManyExtents(t *testing.T) {
	const w = 100000
	ext := make([]api.Extent, w)
	for k := range ext {
		ext[k] = api.Extent{Disk: k, At: 8}
	}
	for slot, want := range map[int]api.Place{
		0:               {Disk: 0, At: 8},
		w - 2:           {Disk: w - 2, At: 8},
		w - 1:           {Disk: 0, At: 9},
		2*(w-1) - 1:     {Disk: w - 1, At: 9},
		7 * (w - 1):     {Disk: 0, At: 15},
		7*(w-1) + w - 9: {Disk: w - 9, At: 15},
		7*(w-1) + w - 8: {Disk: w - 7, At: 15},
		8*(w-1) - 1:     {Disk: w - 1, At: 15},
	} {
		wantPlace(t, "Home", Home, ext, slot, want)
	}
	l, e := Mates(ext, 7*(w-1)+w-8)
	if len(l) != w-1 || e != api.OK || l[w-9] != (api.Place{Disk: w - 9, At: 15}) || l[w-8] != (api.Place{Disk: w - 6, At: 15}) || l[w-2] != (api.Place{Disk: w - 8, At: 15}) {
		t.Error(len(l), e)
	}
}

func wantNoPlace(t *testing.T, name string, ask func([]api.Extent, int) (api.Place, api.Errno), ext []api.Extent, n int, want api.Errno) {
	t.Helper()
	if p, e := ask(ext, n); p != (api.Place{}) || e != want {
		t.Errorf("%s of %d extents, of %d: %v, %v, not %v", name, len(ext), n, p, e, want)
	}
}

func wantNoPlaces(t *testing.T, name string, ask func([]api.Extent, int) ([]api.Place, api.Errno), ext []api.Extent, n int, want api.Errno) {
	t.Helper()
	if l, e := ask(ext, n); len(l) != 0 || e != want {
		t.Errorf("%s of %d extents, of %d: %v, %v, not %v", name, len(ext), n, l, e, want)
	}
}

// Too few extents stand ahead of no slot and no stripe.
func TestTooFewExtents(t *testing.T) {
	for _, ext := range short() {
		for _, n := range append(beyond(8), 0, 1, 7) {
			wantNoPlace(t, "Home", Home, ext, n, api.ErrArg)
			wantNoPlace(t, "Parity", Parity, ext, n, api.ErrArg)
			wantNoPlaces(t, "Data", Data, ext, n, api.ErrArg)
			wantNoPlaces(t, "Mates", Mates, ext, n, api.ErrArg)
		}
	}
}

func TestNoSuchSlotOrStripe(t *testing.T) {
	for _, ext := range rows() {
		for _, slot := range beyond(8 * (len(ext) - 1)) {
			wantNoPlace(t, "Home", Home, ext, slot, api.ErrRange)
			wantNoPlaces(t, "Mates", Mates, ext, slot, api.ErrRange)
		}
		for _, at := range beyond(8) {
			wantNoPlace(t, "Parity", Parity, ext, at, api.ErrRange)
			wantNoPlaces(t, "Data", Data, ext, at, api.ErrRange)
		}
	}
}

// Each sector of the extents is the home of one slot, or the parity of one stripe; and no other one is.
func TestEachSectorIsOne(t *testing.T) {
	for _, ext := range rows() {
		got := map[api.Place]int{}
		for slot := range Slots(len(ext)) {
			p, e := Home(ext, slot)
			is(t, "Home", e, api.OK)
			got[p]++
		}
		for at := range api.Run {
			p, e := Parity(ext, at)
			is(t, "Parity", e, api.OK)
			got[p]++
		}
		for _, x := range ext {
			for i := range api.Run {
				if n := got[api.Place{Disk: x.Disk, At: x.At + i}]; n != 1 {
					t.Fatalf("%d extents: the sector %d of %v is %d", len(ext), i, x, n)
				}
			}
		}
		if len(got) != len(ext)*api.Run {
			t.Errorf("%d extents: %d places", len(ext), len(got))
		}
	}
}

// The parities of some stripes stand on as many extents as may be, none of which has two more than another one.
func TestParitiesAreSpread(t *testing.T) {
	for _, ext := range rows() {
		has := map[int]int{}
		for at := range api.Run {
			p, e := Parity(ext, at)
			is(t, "Parity", e, api.OK)
			has[p.Disk]++
		}
		if len(has) != min(len(ext), api.Run) {
			t.Errorf("%d extents: parities on %v", len(ext), has)
		}
		for d, n := range has {
			if least := api.Run / len(ext); n < least || n > least+1 {
				t.Errorf("%d extents: %d parities on %d", len(ext), n, d)
			}
		}
	}
}

// What was answered stays, whatever is written over that was handed in.
func TestPlacesAreTheirOwners(t *testing.T) {
	ext := []api.Extent{one, two, three, four}
	l := layoutOf(ext)
	data, e := Data(ext, 1)
	is(t, "Data", e, api.OK)
	mates, e := Mates(ext, 4)
	is(t, "Mates", e, api.OK)
	again, e := Mates(ext, 4)
	is(t, "Mates", e, api.OK)
	clear(ext)
	clear(again)
	if !slices.Equal(data, l.data[1]) || !slices.Equal(mates, l.mates(4)) {
		t.Error(data, mates)
	}
}
