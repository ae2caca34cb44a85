package parity

import (
	"math/rand"
	"slices"
	"testing"

	"braidwork/api"
)

func TestCheckOfFew(t *testing.T) {
	wantCheck(t, nil, true)
	wantCheck(t, []api.Sector{}, true)
	wantCheck(t, []api.Sector{zeros}, true)
	for _, s := range []api.Sector{ones, count, full(1), full(0x80)} {
		wantCheck(t, []api.Sector{s}, false)
		wantCheck(t, []api.Sector{s, s}, true)
		wantCheck(t, []api.Sector{s, zeros}, false)
		wantCheck(t, []api.Sector{zeros, s}, false)
		wantCheck(t, []api.Sector{s, s, s}, false)
		wantCheck(t, []api.Sector{s, s, zeros}, true)
		wantCheck(t, []api.Sector{s, zeros, s}, true)
		wantCheck(t, []api.Sector{zeros, s, s}, true)
	}
	wantCheck(t, []api.Sector{full(1), full(2), full(3)}, true)
	wantCheck(t, []api.Sector{full(1), full(2), full(2)}, false)
}

// One bit alone, wherever it is, is enough for a sector not to be zeros.
func TestCheckOfOneBit(t *testing.T) {
	for at := range api.Size {
		for bit := range 8 {
			var s api.Sector
			s[at] = 1 << bit
			wantCheck(t, []api.Sector{s}, false)
			wantCheck(t, []api.Sector{s, s}, true)
		}
	}
}

func TestCheckOfDataAndTheirParity(t *testing.T) {
	r := rand.New(rand.NewSource(7))
	for n := range 40 {
		l := many(r, n)
		wantCheck(t, append(l, plain(l...)), true)
		wantCheck(t, append(l, Build(l)), true)
	}
}

// Data and their parity with any one bit turned, in any of them.
func TestCheckOfOneBitTurned(t *testing.T) {
	r := rand.New(rand.NewSource(8))
	for _, n := range []int{0, 1, 2, 3, 11} {
		l := many(r, n)
		l = append(l, plain(l...))
		for i := range l {
			for at := range api.Size {
				for bit := range 8 {
					l[i][at] ^= 1 << bit
					wantCheck(t, l, false)
					l[i][at] ^= 1 << bit
				}
			}
		}
		wantCheck(t, l, true)
	}
}

// Bytes that are wrong at unlike places, or by unlike bits of one place, do not make up for each other.
func TestCheckOfSeveralWrongBytes(t *testing.T) {
	l := []api.Sector{full(1), full(2), full(3)}
	for a := range api.Size {
		for b := range a {
			x := slices.Clone(l)
			x[0][a] ^= 0x11
			x[2][b] ^= 0x11
			wantCheck(t, x, false)
		}
		x := slices.Clone(l)
		x[0][a] ^= 0x10
		x[2][a] ^= 0x01
		wantCheck(t, x, false)
		x[1][a] ^= 0x11
		wantCheck(t, x, true)
	}
}

// It is so just where Build is zeros.
func TestCheckIsThatBuildIsZeros(t *testing.T) {
	r := rand.New(rand.NewSource(9))
	is := 0
	for range 3000 {
		l := make([]api.Sector, r.Intn(5))
		for i := range l {
			at := r.Intn(2)
			l[i][63*at] = byte(r.Intn(3))
		}
		want := plain(l...) == zeros
		if want {
			is++
		}
		wantCheck(t, l, want)
	}
	if is < 300 || is > 2700 {
		t.Errorf("%d of 3000 lists are right", is)
	}
}
