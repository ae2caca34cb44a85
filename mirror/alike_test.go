package mirror

import (
	"math"
	"testing"

	"braidwork/api"
	"braidwork/disk"
)

var wrote = answer{wrote: true}

func TestAlike(t *testing.T) {
	for _, r := range []row{
		{here, there, wrote, 1, at(stock(here), there)},
		{there, here, wrote, 1, at(stock(there), here)},
		{here, near, wrote, 1, at(stock(here), near)},
		{here, here, answer{}, 0, nil},
		{here, dead, answer{}, 0, nil},
		{here, none, answer{}, 0, nil},
		{dead, there, answer{}, 0, nil},
		{none, there, answer{}, 0, nil},
		{dead, dead, failed(api.ErrFailed), 0, nil},
		{none, none, failed(api.ErrFailed), 0, nil},
		{dead, none, failed(api.ErrFailed), 0, nil},
		{none, dead, failed(api.ErrFailed), 0, nil},
		{out, there, failed(api.ErrRange), 0, nil},
		{below, dead, failed(api.ErrRange), 0, nil},
		{out, none, failed(api.ErrRange), 0, nil},
		{out, out, failed(api.ErrRange), 0, nil},
		{here, out, failed(api.ErrRange), 0, nil},
		{here, below, failed(api.ErrRange), 0, nil},
		{dead, out, failed(api.ErrRange), 0, nil},
		{none, below, failed(api.ErrRange), 0, nil},
	} {
		b := begin(t)
		alike.does(t, b, r)
		keeps(t, b, r)
		if r.want == wrote {
			alike.does(t, b, row{r.x, r.y, answer{}, 0, r.now})
			alike.does(t, b, row{r.y, r.x, answer{}, 0, r.now})
		}
	}
}

func TestAlikeWithoutPower(t *testing.T) {
	for _, r := range []row{
		{here, there, failed(api.ErrDown), 0, nil},
		{here, here, failed(api.ErrDown), 0, nil},
		{here, dead, failed(api.ErrDown), 0, nil},
		{out, none, failed(api.ErrDown), 0, nil},
		{dead, there, failed(api.ErrDown), 0, nil},
		{none, out, failed(api.ErrDown), 0, nil},
		{dead, none, failed(api.ErrFailed), 0, nil},
		{none, dead, failed(api.ErrFailed), 0, nil},
	} {
		alike.does(t, off(t), r)
	}
}

// Copies that are the same are not written, be they flushed or not, zeros or not.
func TestAlikeOfTheSame(t *testing.T) {
	for _, s := range []api.Sector{zeros, fresh, stock(here), full(0xff)} {
		for loose := range 4 {
			b := begin(t)
			put(t, b, here, s)
			put(t, b, there, s)
			if loose&1 != 0 {
				is(t, "Write", b.Write(here, s), api.OK)
			}
			if loose&2 != 0 {
				is(t, "Write", b.Write(there, s), api.OK)
			}
			was := b.Clone()
			alike.does(t, b, row{here, there, answer{}, 0, at(s, here, there)})
			sameBanks(t, "behind Alike", b, was)
		}
	}
}

// Any one bit tells copies apart.
func TestAlikeOfNearlyTheSame(t *testing.T) {
	for i := range api.Size {
		for bit := range 8 {
			b := begin(t)
			s := fresh
			s[i] ^= 1 << bit
			put(t, b, here, fresh)
			put(t, b, there, s)
			alike.does(t, b, row{here, there, wrote, 1, at(fresh, here, there)})
		}
	}
}

// What is newest counts, though another content is flushed.
func TestAlikeOfWhatIsNewest(t *testing.T) {
	b := begin(t)
	put(t, b, there, stock(here))
	is(t, "Write", b.Write(there, fresh), api.OK)
	alike.does(t, b, row{here, there, wrote, 1, at(stock(here), there)})
	is(t, "Write", b.Write(here, fresh), api.OK)
	alike.does(t, b, row{here, there, wrote, 1, at(fresh, here, there)})
	is(t, "Write", b.Write(here, zeros), api.OK)
	alike.does(t, b, row{here, there, wrote, 1, at(zeros, here, there)})
}

// The second one is lost only when it is written; the first one may be lost then, too, and the second one is what it was.
func TestADiskFailsInAlike(t *testing.T) {
	for _, l := range []struct {
		disk, n int
		row
	}{
		{1, 1, row{here, there, answer{}, 1, nil}},
		{0, 1, row{here, there, wrote, 1, at(stock(here), there)}},
		{0, 1, row{here, near, answer{}, 1, nil}},
		{1, 2, row{here, there, wrote, 1, at(stock(here), there)}},
	} {
		b := begin(t)
		b.FailAt(l.disk, l.n)
		alike.does(t, b, l.row)
	}
	b := begin(t)
	b.FailAt(0, 1)
	b.FailAt(1, 1)
	alike.does(t, b, row{here, there, answer{}, 1, nil})
	alike.does(t, b, row{here, there, failed(api.ErrFailed), 0, nil})
}

// Power fails at the one write of it, whether a disk fails then or not.
func TestPowerFailsInAlike(t *testing.T) {
	for d := -1; d < 2; d++ {
		b := begin(t)
		b.FailAt(d, 1)
		b.Arm(1, math.MaxUint64)
		alike.does(t, b, row{here, there, failed(api.ErrDown), 1, nil})
	}
	b := begin(t)
	b.Arm(1, 0)
	alike.does(t, b, row{here, here, answer{}, 0, nil})
	alike.does(t, b, row{here, dead, answer{}, 0, nil})
	alike.does(t, b, row{none, here, answer{}, 0, nil})
	b.Arm(2, 1)
	alike.does(t, b, row{here, there, wrote, 1, at(stock(here), there)})
	alike.does(t, b, row{near, there, failed(api.ErrDown), 1, at(stock(here), there)})
}

func TestCopy(t *testing.T) {
	for _, r := range []row{
		{here, there, answer{}, 1, at(stock(here), there)},
		{there, here, answer{}, 1, at(stock(there), here)},
		{here, near, answer{}, 1, at(stock(here), near)},
		{here, here, answer{}, 1, at(stock(here), here)},
		{here, dead, failed(api.ErrDead), 1, nil},
		{here, none, failed(api.ErrNone), 1, nil},
		{here, out, failed(api.ErrRange), 1, nil},
		{here, below, failed(api.ErrRange), 1, nil},
		{dead, there, failed(api.ErrDead), 0, nil},
		{none, there, failed(api.ErrNone), 0, nil},
		{out, there, failed(api.ErrRange), 0, nil},
		{below, there, failed(api.ErrRange), 0, nil},
		{dead, none, failed(api.ErrDead), 0, nil},
		{none, dead, failed(api.ErrNone), 0, nil},
		{dead, dead, failed(api.ErrDead), 0, nil},
		{none, none, failed(api.ErrNone), 0, nil},
		{out, dead, failed(api.ErrRange), 0, nil},
		{none, out, failed(api.ErrNone), 0, nil},
	} {
		b := begin(t)
		copied.does(t, b, r)
		keeps(t, b, r)
	}
}

func TestCopyWithoutPower(t *testing.T) {
	for _, r := range []row{
		{here, there, failed(api.ErrDown), 0, nil},
		{out, there, failed(api.ErrDown), 0, nil},
		{here, dead, failed(api.ErrDown), 0, nil},
		{dead, there, failed(api.ErrDead), 0, nil},
		{none, there, failed(api.ErrNone), 0, nil},
	} {
		copied.does(t, off(t), r)
	}
}

// Also of what is not flushed, of zeros, and of what is there already.
func TestCopyOfAnySector(t *testing.T) {
	for _, s := range []api.Sector{zeros, fresh, stock(there), full(0xff)} {
		b := begin(t)
		is(t, "Write", b.Write(here, s), api.OK)
		copied.does(t, b, row{here, there, answer{}, 1, at(s, here, there)})
		if b.Loose() != 2 {
			t.Error(b.Loose(), "are loose")
		}
		is(t, "Flush", b.Flush(1), api.OK)
		copied.does(t, b, row{here, there, answer{}, 1, at(s, here, there)})
		b.Crash(1)
		holds(t, "behind a crash", b, at(s, here, there))
	}
}

func TestPowerAndDisksFailInCopy(t *testing.T) {
	for _, l := range []struct {
		disk, fails, falls int
		row
	}{
		{-1, 0, 1, row{here, there, failed(api.ErrDown), 1, nil}},
		{-1, 0, 1, row{here, none, failed(api.ErrDown), 1, nil}},
		{-1, 0, 1, row{none, there, failed(api.ErrNone), 0, nil}},
		{-1, 0, 2, row{here, there, answer{}, 1, at(stock(here), there)}},
		{0, 1, 0, row{here, there, answer{}, 1, at(stock(here), there)}},
		{1, 1, 0, row{here, there, failed(api.ErrDead), 1, nil}},
		{0, 1, 0, row{here, near, failed(api.ErrDead), 1, nil}},
		{1, 1, 1, row{here, there, failed(api.ErrDown), 1, nil}},
	} {
		b := begin(t)
		b.FailAt(l.disk, l.fails)
		b.Arm(l.falls, math.MaxUint64)
		copied.does(t, b, l.row)
	}
}

func TestOfABankWithoutDisks(t *testing.T) {
	b := disk.NewBank()
	alike.does(t, b, row{here, there, failed(api.ErrFailed), 0, nil})
	copied.does(t, b, row{here, there, failed(api.ErrNone), 0, nil})
}
