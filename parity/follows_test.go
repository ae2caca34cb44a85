package parity

import (
	"math/rand"
	"slices"
	"testing"

	"braidwork/api"
)

// lists are data of each number: any bytes, all alike, and some of them zeros.
func lists() [][]api.Sector {
	r := rand.New(rand.NewSource(10))
	var all [][]api.Sector
	for n := range 13 {
		mixed := many(r, n)
		for i := range mixed {
			if r.Intn(2) == 0 {
				mixed[i] = zeros
			}
		}
		all = append(all, many(r, n), slices.Repeat([]api.Sector{count}, n), make([]api.Sector, n), mixed)
	}
	return all
}

// Any one of data and parity is Rebuild of the others, whatever stands at its place.
func TestAnyOneOutOfTheOthers(t *testing.T) {
	for _, data := range lists() {
		all := append(slices.Clone(data), Build(data))
		for i, s := range all {
			wantRebuild(t, all, i, s)
			for _, other := range []api.Sector{zeros, ones, count} {
				lost := slices.Clone(all)
				lost[i] = other
				wantRebuild(t, lost, i, s)
				wantCheck(t, lost, other == s)
				lost[i], _ = Rebuild(lost, i)
				wantCheck(t, lost, true)
			}
		}
	}
}

func TestTheOrderDoesNotMatter(t *testing.T) {
	r := rand.New(rand.NewSource(11))
	for _, data := range lists() {
		want := Build(data)
		all := append(slices.Clone(data), want)
		for range 6 {
			r.Shuffle(len(data), func(i, j int) { data[i], data[j] = data[j], data[i] })
			wantBuild(t, data, want)
			r.Shuffle(len(all), func(i, j int) { all[i], all[j] = all[j], all[i] })
			wantCheck(t, all, true)
			for i, s := range all {
				wantRebuild(t, all, i, s)
			}
		}
	}
	for range 100 {
		l := many(r, 3)
		want := plain(l...)
		for _, o := range [][]int{{0, 1, 2}, {0, 2, 1}, {1, 0, 2}, {1, 2, 0}, {2, 0, 1}, {2, 1, 0}} {
			a, b, c := l[o[0]], l[o[1]], l[o[2]]
			wantPlug(t, a, b, c, want)
			wantXor(t, Xor(a, b), c, want)
			wantXor(t, a, Xor(b, c), want)
		}
	}
}

func TestZerosBetweenDoNotMatter(t *testing.T) {
	for _, data := range lists() {
		want := Build(data)
		for at := range len(data) + 1 {
			more := slices.Insert(slices.Clone(data), at, zeros)
			wantBuild(t, more, want)
			wantBuild(t, slices.Insert(slices.Clone(more), at, zeros, zeros), want)
			all := append(more, want)
			wantCheck(t, all, true)
			wantRebuild(t, all, at, zeros)
			wantRebuild(t, all, len(data)+1, want)
		}
	}
}

// Plug is Build of the new data, whichever one of them is another one now.
func TestPlugIsBuildOfTheNewData(t *testing.T) {
	r := rand.New(rand.NewSource(12))
	for _, data := range lists() {
		for i, old := range data {
			for _, s := range []api.Sector{zeros, ones, count, old, some(r)} {
				now := slices.Clone(data)
				now[i] = s
				wantPlug(t, old, Build(data), s, Build(now))
				wantPlug(t, old, plain(data...), s, plain(now...))
			}
		}
	}
}

// Plug after Plug the parity stays right, and the first data again have the first parity.
func TestPlugAfterPlug(t *testing.T) {
	r := rand.New(rand.NewSource(13))
	data := many(r, 7)
	first, parity := slices.Clone(data), Build(data)
	were := parity
	for range 200 {
		i, s := r.Intn(len(data)), some(r)
		parity = Plug(data[i], parity, s)
		data[i] = s
		wantBuild(t, data, parity)
		wantCheck(t, append(slices.Clone(data), parity), true)
	}
	for i, s := range first {
		parity = Plug(data[i], parity, s)
		data[i] = s
	}
	if parity != were {
		t.Errorf("the parity of the first data is %x, and was %x", parity, were)
	}
}

// What was answered stays, whatever is written over that was handed in.
func TestAnswersAreTheirOwners(t *testing.T) {
	l := []api.Sector{full(1), full(2), full(4)}
	p := Build(l)
	one := Build(l[:1])
	s, e := Rebuild(l, 1)
	x := Xor(l[0], l[1])
	g := Plug(l[0], l[1], l[2])
	for i := range l {
		l[i] = ones
	}
	if p != full(7) || one != full(1) || s != full(5) || e != api.OK || x != full(3) || g != full(7) {
		t.Errorf("%x, %x, %x, %v, %x, %x", p, one, s, e, x, g)
	}
	clear(p[:])
	clear(s[:])
	wantBuild(t, []api.Sector{full(1), full(2), full(4)}, full(7))
	wantRebuild(t, []api.Sector{full(1), full(2), full(4)}, 1, full(5))
}
