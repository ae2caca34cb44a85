package parity

import (
	"math"
	"math/rand"
	"slices"
	"testing"

	"braidwork/api"
)

func TestTheChaptersExamples(t *testing.T) {
	wantBuild(t, []api.Sector{full(1), full(2)}, full(3))
	wantRebuild(t, []api.Sector{full(1), full(2), full(3)}, 0, full(1))
	wantPlug(t, full(1), full(3), full(4), full(6))
}

// Each pair of bytes, at each place of a sector.
func TestXorOfAllBytes(t *testing.T) {
	for a := range 256 {
		for b := range 256 {
			x, y, want := count, ones, plain(count, ones)
			at := (a + 5*b) % api.Size
			x[at], y[at] = byte(a), byte(b)
			want[at] = byte(a + b - 2*(a&b))
			wantXor(t, x, y, want)
		}
	}
}

func TestXorOfItselfAndOfZeros(t *testing.T) {
	for _, s := range []api.Sector{zeros, ones, count, full(1), full(0x80)} {
		wantXor(t, s, s, zeros)
		wantXor(t, s, zeros, s)
		wantXor(t, zeros, s, s)
		wantXor(t, s, ones, plain(s, ones))
	}
}

// A byte of the answer hangs on the bytes at its place alone.
func TestXorIsByteByByte(t *testing.T) {
	for at := range api.Size {
		for bit := range 8 {
			var one api.Sector
			one[at] = 1 << bit
			wantXor(t, one, zeros, one)
			wantXor(t, zeros, one, one)
			wantXor(t, one, one, zeros)
			turned := count
			turned[at] ^= 1 << bit
			wantXor(t, count, one, turned)
			wantXor(t, one, count, turned)
		}
	}
}

func TestBuildOfFew(t *testing.T) {
	wantBuild(t, nil, zeros)
	wantBuild(t, []api.Sector{}, zeros)
	for _, s := range []api.Sector{zeros, ones, count, full(7)} {
		wantBuild(t, []api.Sector{s}, s)
		wantBuild(t, []api.Sector{s, s}, zeros)
		wantBuild(t, []api.Sector{s, s, s}, s)
		wantBuild(t, []api.Sector{s, full(1), s}, full(1))
		wantBuild(t, []api.Sector{s, count}, plain(s, count))
		wantBuild(t, []api.Sector{count, s}, plain(s, count))
	}
}

func TestBuildOfTwoIsXor(t *testing.T) {
	r := rand.New(rand.NewSource(1))
	for range 300 {
		l := many(r, 2)
		wantXor(t, l[0], l[1], plain(l...))
		wantBuild(t, l, Xor(l[0], l[1]))
	}
}

func TestBuildOfMany(t *testing.T) {
	r := rand.New(rand.NewSource(2))
	for n := range 70 {
		l := many(r, n)
		wantBuild(t, l, plain(l...))
	}
	l := many(r, 5000)
	wantBuild(t, l, plain(l...))
	wantBuild(t, slices.Repeat([]api.Sector{count}, 4999), count)
	wantBuild(t, slices.Repeat([]api.Sector{count}, 5000), zeros)
}

// Each of the sectors counts, the first and the last one too.
func TestBuildTakesEachOnce(t *testing.T) {
	for n := 1; n <= 12; n++ {
		for i := range n {
			l := make([]api.Sector, n)
			l[i] = count
			wantBuild(t, l, count)
		}
	}
}

func TestRebuildOfNoSuchSector(t *testing.T) {
	r := rand.New(rand.NewSource(3))
	for n := range 14 {
		l := many(r, n)
		for _, i := range []int{math.MinInt, -1 << 32, -n - 1, -n, -2, -1, n, n + 1, 2*n + 1, 1 << 32, math.MaxInt - 1, math.MaxInt} {
			if i < 0 || i >= n {
				wantNone(t, l, i)
			}
		}
	}
	for _, i := range []int{math.MinInt, -1, 0, 1, math.MaxInt} {
		wantNone(t, nil, i)
		wantNone(t, []api.Sector{}, i)
	}
}

// Also of a list that has room for more sectors than it has.
func TestRebuildAsksForTheSectorsThatThereAre(t *testing.T) {
	all := []api.Sector{full(1), full(2), full(4), full(8)}
	for n := range 4 {
		for i := n; i <= 4; i++ {
			if s, e := Rebuild(all[:n], i); s != zeros || e != api.ErrRange {
				t.Errorf("Rebuild of %d of 4 sectors, of %d: %x, %v", n, i, s, e)
			}
		}
	}
}

// The first and the last one, too.
func TestRebuildIsTheOthersAlone(t *testing.T) {
	for n := 1; n <= 8; n++ {
		var l []api.Sector
		all := 1<<n - 1
		for i := range n {
			l = append(l, full(1<<i))
		}
		for i := range n {
			wantRebuild(t, l, i, full(byte(all&^(1<<i))))
		}
	}
}

func TestRebuildOfOne(t *testing.T) {
	for _, s := range []api.Sector{zeros, ones, count} {
		wantRebuild(t, []api.Sector{s}, 0, zeros)
		wantRebuild(t, []api.Sector{s, count}, 0, count)
		wantRebuild(t, []api.Sector{s, count}, 1, s)
	}
}

// Whether the last one is the parity or not: Rebuild is Build of the others.
func TestRebuildOfAnySectors(t *testing.T) {
	r := rand.New(rand.NewSource(4))
	for n := 1; n < 30; n++ {
		l := many(r, n)
		for i := range l {
			others := slices.Delete(slices.Clone(l), i, i+1)
			wantRebuild(t, l, i, plain(others...))
			wantBuild(t, others, plain(others...))
		}
	}
}

// What is lost may hold anything: it does not count.
func TestRebuildWhateverStandsThere(t *testing.T) {
	r := rand.New(rand.NewSource(5))
	for n := 1; n < 13; n++ {
		l := many(r, n)
		for i := range l {
			want, _ := rebuild(t, l, i)
			for _, s := range []api.Sector{zeros, ones, count, full(1), want, some(r)} {
				x := slices.Clone(l)
				x[i] = s
				wantRebuild(t, x, i, want)
			}
			for at := range api.Size {
				x := slices.Clone(l)
				x[i][at] ^= 1 << (at % 8)
				wantRebuild(t, x, i, want)
			}
		}
	}
}

func TestPlugIsTheExclusiveOrOfThree(t *testing.T) {
	r := rand.New(rand.NewSource(6))
	for range 300 {
		l := many(r, 3)
		wantPlug(t, l[0], l[1], l[2], plain(l...))
	}
	for _, s := range []api.Sector{zeros, ones, count} {
		wantPlug(t, s, zeros, zeros, s)
		wantPlug(t, zeros, s, zeros, s)
		wantPlug(t, zeros, zeros, s, s)
		wantPlug(t, s, s, zeros, zeros)
		wantPlug(t, s, zeros, s, zeros)
		wantPlug(t, zeros, s, s, zeros)
		wantPlug(t, s, s, s, s)
		wantPlug(t, s, count, s, count)
	}
}

// Whatever the parity is: no sectors are looked at but these three.
func TestPlugOfWhatIsNoParity(t *testing.T) {
	for at := range api.Size {
		for bit := range 8 {
			wrong := full(3)
			wrong[at] ^= 1 << bit
			want := full(6)
			want[at] ^= 1 << bit
			wantPlug(t, full(1), wrong, full(4), want)
		}
	}
}
