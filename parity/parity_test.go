package parity

import (
	"math/rand"
	"slices"
	"testing"

	"braidwork/api"
)

// zeros, ones and count are sectors of noughts, of all bits, and of bytes of which none is like another.
var (
	zeros api.Sector
	ones  = full(0xff)
	count = counted()
)

// full is the sector of which each byte is v: what the chapter writes as 01 ...
func full(v byte) api.Sector {
	var s api.Sector
	for i := range s {
		s[i] = v
	}
	return s
}

func counted() api.Sector {
	var s api.Sector
	for i := range s {
		s[i] = byte(3*i + 1)
	}
	return s
}

// some is a sector of any bytes.
func some(r *rand.Rand) api.Sector {
	var s api.Sector
	for i := range s {
		s[i] = byte(r.Intn(256))
	}
	return s
}

// many is n of these.
func many(r *rand.Rand, n int) []api.Sector {
	l := make([]api.Sector, n)
	for i := range l {
		l[i] = some(r)
	}
	return l
}

// plain is the parity, told anew bit by bit: a bit is 1, where an odd number of the sectors has it.
func plain(l ...api.Sector) api.Sector {
	var s api.Sector
	for at := range s {
		for bit := range 8 {
			has := 0
			for _, x := range l {
				if x[at]&(1<<bit) != 0 {
					has++
				}
			}
			if has%2 == 1 {
				s[at] |= 1 << bit
			}
		}
	}
	return s
}

// behind is what stands behind the sectors that are handed in, so that a call that reads or writes there shows.
var behind = []api.Sector{{0x5a, 1}, {0x5b, 2}, {0x5c, 3}}

// lent is l with something behind it.
func lent(l []api.Sector) []api.Sector {
	return append(slices.Clone(l), behind...)[:len(l)]
}

func stayed(t *testing.T, lent, were []api.Sector) {
	t.Helper()
	if !slices.Equal(lent[:len(were)+len(behind)], slices.Concat(were, behind)) {
		t.Fatalf("%x was handed in, and is %x", were, lent[:len(were)+len(behind)])
	}
}

// build is Build, twice, of sectors that are to stay as they were: the first answer is written over ahead of the second call.
func build(t *testing.T, l []api.Sector) api.Sector {
	t.Helper()
	in := lent(l)
	first := Build(in)
	s := first
	clear(first[:])
	stayed(t, in, l)
	if second := Build(in); second != s {
		t.Fatalf("Build(%x): %x, and then %x", l, s, second)
	}
	stayed(t, in, l)
	return s
}

// rebuild is Rebuild likewise.
func rebuild(t *testing.T, l []api.Sector, i int) (api.Sector, api.Errno) {
	t.Helper()
	in := lent(l)
	first, e := Rebuild(in, i)
	s := first
	clear(first[:])
	stayed(t, in, l)
	if second, again := Rebuild(in, i); second != s || again != e {
		t.Fatalf("Rebuild(%x, %d): %x, %v, and then %x, %v", l, i, s, e, second, again)
	}
	stayed(t, in, l)
	return s, e
}

// check is Check likewise.
func check(t *testing.T, l []api.Sector) bool {
	t.Helper()
	in := lent(l)
	first := Check(in)
	stayed(t, in, l)
	if second := Check(in); second != first {
		t.Fatalf("Check(%x): %v, and then %v", l, first, second)
	}
	stayed(t, in, l)
	return first
}

func wantXor(t *testing.T, a, b, want api.Sector) {
	t.Helper()
	if s := Xor(a, b); s != want {
		t.Fatalf("Xor(%x, %x): %x, not %x", a, b, s, want)
	}
}

func wantBuild(t *testing.T, l []api.Sector, want api.Sector) {
	t.Helper()
	if s := build(t, l); s != want {
		t.Fatalf("Build(%x): %x, not %x", l, s, want)
	}
}

func wantRebuild(t *testing.T, l []api.Sector, i int, want api.Sector) {
	t.Helper()
	if s, e := rebuild(t, l, i); s != want || e != api.OK {
		t.Fatalf("Rebuild(%x, %d): %x, %v, not %x", l, i, s, e, want)
	}
}

func wantNone(t *testing.T, l []api.Sector, i int) {
	t.Helper()
	if s, e := rebuild(t, l, i); s != zeros || e != api.ErrRange {
		t.Fatalf("Rebuild of %d sectors, of %d: %x, %v", len(l), i, s, e)
	}
}

func wantPlug(t *testing.T, old, parity, new, want api.Sector) {
	t.Helper()
	if s := Plug(old, parity, new); s != want {
		t.Fatalf("Plug(%x, %x, %x): %x, not %x", old, parity, new, s, want)
	}
}

func wantCheck(t *testing.T, l []api.Sector, want bool) {
	t.Helper()
	if ok := check(t, l); ok != want {
		t.Fatalf("Check(%x): %v", l, ok)
	}
}
