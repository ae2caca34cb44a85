package spread

import (
	"testing"

	"braidwork/api"
	"braidwork/disk"
)

// bankOf is a bank with disks of these numbers of sectors.
func bankOf(t *testing.T, sizes ...int) *disk.Bank {
	t.Helper()
	b := disk.NewBank()
	for _, n := range sizes {
		if _, e := b.Add(n); e != api.OK {
			t.Fatal("Add", e)
		}
	}
	return b
}

// row is n sectors that are unlike each other.
func row(n int) []api.Sector {
	l := make([]api.Sector, n)
	for i := range l {
		l[i] = api.Sector{byte(i + 1)}
	}
	return l
}

// holds tells that a disk has these sectors from at on, and noughts everywhere else.
func holds(t *testing.T, b *disk.Bank, d, at int, l ...api.Sector) {
	t.Helper()
	for i := range b.Sectors(d) {
		var want api.Sector
		if i >= at && i < at+len(l) {
			want = l[i-at]
		}
		if s, e := b.Read(api.Place{Disk: d, At: i}); s != want || e != api.OK {
			t.Fatalf("the disk %d, the sector %d: %v, %v, not %v", d, i, s, e, want)
		}
	}
}

func writes(t *testing.T, b *disk.Bank, live []int, at, n int, want api.Errno, counted int) {
	t.Helper()
	before := b.Writes()
	if e := Write(b, live, at, row(n)); e != want || b.Writes()-before != counted {
		t.Fatalf("Write(%v, %d, %d sectors): %v, %d writes, not %v, %d", live, at, n, e, b.Writes()-before, want, counted)
	}
}

func TestEachLiveMemberHasThem(t *testing.T) {
	b := bankOf(t, 9, 9, 9)
	b.Write(api.Place{Disk: 1}, api.Sector{})
	writes(t, b, []int{2, 0, 2}, 4, 3, api.OK, 9)
	if b.Loose() != 1 { // what is flushed are the live members alone
		t.Fatal("Loose", b.Loose())
	}
	holds(t, b, 0, 4, row(3)...)
	holds(t, b, 1, 0)
	holds(t, b, 2, 4, row(3)...)
}

func TestThoseThatAreLostArePassedOver(t *testing.T) {
	b := bankOf(t, 9, 9, 9)
	b.Fail(0)
	b.FailAt(1, 4) // two places that are lost, and one sector
	writes(t, b, []int{0, 7, 1, 2}, 5, 3, api.OK, 1+1+2+3)
	holds(t, b, 2, 5, row(3)...)
	writes(t, b, []int{0, 7, 1}, 5, 3, api.ErrFailed, 3)
	writes(t, b, nil, 5, 3, api.ErrFailed, 0)
}

func TestAnyOtherErrorIsToldAsErrDown(t *testing.T) {
	b := bankOf(t, 9, 6, 9)
	writes(t, b, []int{0, 1, 2}, 5, 3, api.ErrDown, 3+2)
	holds(t, b, 0, 5, row(3)...)
	holds(t, b, 1, 5, row(1)...)
	holds(t, b, 2, 0)
	b.Arm(2, 0)
	writes(t, b, []int{2, 0}, 0, 3, api.ErrDown, 2)
	writes(t, b, []int{2, 0}, 0, 3, api.ErrDown, 0)
	b.Fail(2)
	writes(t, b, []int{2}, 0, 3, api.ErrFailed, 0)
	b.Start()
	holds(t, b, 0, 5, row(3)...)
}

func TestLost(t *testing.T) {
	for e := api.OK; e <= api.ErrFull; e++ {
		if Lost(e) != (e == api.ErrDead || e == api.ErrNone) {
			t.Error(e, Lost(e))
		}
	}
}
